/- Contracts over the codec's program: the reference's reader: Value where no list or dictionary begins. -/
import Derived.Test.YtclpbjdnollfcaaDoorCodRTx
import Derived.Test.YtclpbjdnollfcaaDoorCodList
namespace Go.Proofs.YtclpbjdnollfcaaDoor
set_option linter.unusedSimpArgs false
set_option linter.unusedVariables false
open Go.RowKit

theorem RR.keep {w w' : World} {rb : Nat} {A : Option Addr} {c : Nat} {l : List UInt8} {p : Nat} {bad : Bool} (h : RR w rb A c l p bad) (hb : Below (rb + 1) w w') : RR w' rb A c l p bad :=
  ⟨(hb.block rb (Nat.lt_succ_self rb)).trans h.1, h.2.1.keep (hb.mono (Nat.le_succ rb)), h.2.2⟩
theorem movedAlloc {w w2 : World} {rb : Nat} {o : Obj} (h : (w.alloc o).grownBy w2 (some rb)) : w.grownBy w2 (some rb) := World.grownBy.trans (World.grownBy_alloc w _ (some rb)) h
theorem next_dead (w : World) (rb : Nat) (A : Option Addr) (c : Nat) (l : List UInt8) (p : Nat) (h : RR w rb A c l p true) (hp2 : p ≤ 1000000000) :
    Calls Tryd.prog 52 #[.pointer (some ⟨rb, 0, none⟩)] w fun e w' => ∃ x : Int, e = .returned (.int .u8 x) ∧ RR w' rb A c l p true ∧ Moved w rb w' := by
  cases hb : l[p]? with
  | none =>
    refine (next_none w rb A c l p true h (by rw [List.getElem?_eq_none_iff] at hb; exact hb) hp2).mono ?_
    rintro e w' ⟨rfl, h1, h2⟩
    exact ⟨0, rfl, h1, h2⟩
  | some b =>
    refine (next_some w rb A c l p true b h hb).mono ?_
    rintro e w' ⟨rfl, h1⟩
    exact ⟨_, rfl, h.below h1, belowGrown rb h1⟩
/-- a value has been read, or the reader has refused and what is handed back has a value's form -/
def RVal (rb : Nat) (A : Option Addr) (c : Nat) (l : List UInt8) (d : Nat) (r : Option (Va × List UInt8)) (w : World) (e : Ending) (w' : World) : Prop :=
  Moved w rb w' ∧ ∃ (k n : Int) (s : ByteArray) (B : Option Addr) (m c1 : Nat) (B' : Option Addr) (m' c1' p' : Nat), e = .returned (vaV k n s B m c1 B' m' c1') ∧
    match r with
    | some (V, t) => VNew w V (vaV k n s B m c1 B' m' c1') w' ∧ p' ≤ l.length ∧ l.drop p' = t ∧ RR w' rb A c l p' false
    | none => p' ≤ l.length + 2 + d ∧ RR w' rb A c l p' true

set_option maxRecDepth 100000 in
set_option maxHeartbeats 2000000 in
theorem value_dead (d : Int) (w : World) (rb : Nat) (A : Option Addr) (c : Nat) (l : List UInt8) (p : Nat) (h : RR w rb A c l p true) (hp : p ≤ 3000) :
    Calls Tryd.prog 34 #[.pointer (some ⟨rb, 0, none⟩), .int .i64 d] w fun e w' => e = .returned (vaV 0 0 ⟨#[]⟩ none 0 0 none 0 0) ∧ RR w' rb A c l p true ∧ Moved w rb w' := by
  have hlt := h.lt
  have HN := hide (next_dead _ rb A c l p (h.below ((Below.refl w.heap.size w).alloc (Nat.le_refl _) (.cells zeroCells 25))) (by omega))
  clear h
  go_enter Tryd.func34, Tryd.ntmps34
  go_wp2_with fail
  refine (unhide HN).mono ?_; rintro e1 w2 ⟨x, rfl, hr2, hg2⟩
  have hh2 : w2.heap[w.heap.size]? = some (.cells zeroCells 25 (0, 0)) := by
    rw [hg2.block w.heap.size (by simp) (by simp; omega)]
    exact heap_alloc_new _ _
  have HG2 : Hid (w.grownBy w2 (some rb)) := World.grownBy.trans (World.grownBy_alloc w _ (some rb)) hg2
  have hz2 : w.heap.size < w2.heap.size := by have := hg2.size; simp at this; omega
  have f0 := (boxAt hh2 0).1; have f1 := (boxAt hh2 1).1; have f2 := (boxAt hh2 2).1; have f3 := (boxAt hh2 3).1; have f4 := (boxAt hh2 4).1
  have g0 := (boxAt hh2 0).2; have g1 := (boxAt hh2 1).2; have g2 := (boxAt hh2 2).2; have g3 := (boxAt hh2 3).2; have g4 := (boxAt hh2 4).2
  simp at f0 f1 f2 f3 f4
  have hrr := hr2.c2
  have HR2 := hide hr2
  clear hr2 hg2 hh2 HN
  go_wp2_with fail
  exact bodyPost_ret (v := vaV 0 0 ⟨#[]⟩ none 0 0 none 0 0) (by simp [results, Tryd.results34, go_sem, f0, f1, f2, f3, f4]) rfl ⟨rfl, (unhide HR2).keep (below5 (by omega) _ _ _ _ _), set5 (unhide HG2) (Nat.le_refl _) _ _ _ _ _⟩

set_option maxRecDepth 100000 in
set_option maxHeartbeats 2000000 in
theorem value_end (d : Int) (D : Nat) (w : World) (rb : Nat) (A : Option Addr) (c : Nat) (l : List UInt8) (p : Nat) (h : RR w rb A c l p false) (hp : p = l.length) :
    Calls Tryd.prog 34 #[.pointer (some ⟨rb, 0, none⟩), .int .i64 d] w (RVal rb A c l D none w) := by
  have hlt := h.lt
  have hl := h.2.2
  have HN := hide (next_none _ rb A c l p false (h.below ((Below.refl w.heap.size w).alloc (Nat.le_refl _) (.cells zeroCells 25))) (by omega) (by omega))
  clear h
  go_enter Tryd.func34, Tryd.ntmps34
  go_wp2_with fail
  refine (unhide HN).mono ?_; rintro e1 w2 ⟨rfl, hr2, hg2⟩
  have hh2 : w2.heap[w.heap.size]? = some (.cells zeroCells 25 (0, 0)) := by
    rw [hg2.block w.heap.size (by simp) (by simp; omega)]
    exact heap_alloc_new _ _
  have HG2 : Hid (w.grownBy w2 (some rb)) := World.grownBy.trans (World.grownBy_alloc w _ (some rb)) hg2
  have hz2 : w.heap.size < w2.heap.size := by have := hg2.size; simp at this; omega
  have f0 := (boxAt hh2 0).1; have f1 := (boxAt hh2 1).1; have f2 := (boxAt hh2 2).1; have f3 := (boxAt hh2 3).1; have f4 := (boxAt hh2 4).1
  have g0 := (boxAt hh2 0).2; have g1 := (boxAt hh2 1).2; have g2 := (boxAt hh2 2).2; have g3 := (boxAt hh2 3).2; have g4 := (boxAt hh2 4).2
  simp at f0 f1 f2 f3 f4
  have hrr := hr2.c2
  have HR2 := hide hr2
  clear hr2 hg2 hh2 HN
  go_wp2_with fail
  exact bodyPost_ret (v := vaV 0 0 ⟨#[]⟩ none 0 0 none 0 0) (by simp [results, Tryd.results34, go_sem, f0, f1, f2, f3, f4]) rfl ⟨set5 (unhide HG2) (Nat.le_refl _) _ _ _ _ _, 0, 0, ⟨#[]⟩, none, 0, 0, none, 0, 0, p, rfl, by omega, (unhide HR2).keep (below5 (by omega) _ _ _ _ _)⟩

def lenOk (l : List UInt8) (c : Nat) : Prop := l.length ≤ c ∧ c ≤ 9223372036854775807
theorem textR_len {L : Nat} {bs s t : List UInt8} (h : textR L bs = some (s, t)) : s.length ≤ L := by
  unfold textR at h
  cases hn : numR 58 L bs with
  | none => rw [hn] at h; cases h
  | some q =>
    obtain ⟨n, t'⟩ := q
    rw [hn] at h
    dsimp only at h
    split at h
    · cases h
    · injection h with h
      injection h with h1 h2
      have := numR_le hn
      rw [← h1, List.length_take]
      omega

set_option maxRecDepth 100000 in
set_option maxHeartbeats 4000000 in
theorem value_text_ref (d : Int) (D : Nat) (w : World) (rb : Nat) (A : Option Addr) (c : Nat) (l : List UInt8) (p : Nat) (b : UInt8) (h : RR w rb A c l p false) (hb : l[p]? = some b) (hne : b.toNat ≠ 105 ∧ b.toNat ≠ 108 ∧ b.toNat ≠ 100) (hc : lenOk l c)
    (r : Option (Va × List UInt8)) (hr : r = (textR l.length (l.drop p)).map fun q => (.mk 2 0 ⟨q.1.toArray⟩ [] [], q.2)) :
    Calls Tryd.prog 34 #[.pointer (some ⟨rb, 0, none⟩), .int .i64 d] w (RVal rb A c l D r w) := by
  have hlt := h.lt
  have hl := h.2.2
  have hpl : p < l.length := (List.getElem?_eq_some_iff.1 hb).1
  have HF := hide (fun (W : World) (hW : RR W rb A c l p false) => next_some W rb A c l p false b hW hb)
  have HT := hide (fun (W : World) (hW : RR W rb A c l p false) => text_ref W rb A c l p hW (Nat.le_of_lt hpl) hc.1 hc.2)
  have hR0 := h.below ((Below.refl w.heap.size w).alloc (Nat.le_refl _) (.cells zeroCells 25))
  have HR0 := hide hR0
  have b105 : ((b.toNat : Int) == 105) = false := by simp; omega
  have b108 : ((b.toNat : Int) != 108) = true := by simp; omega
  have b100 : ((b.toNat : Int) != 100) = true := by simp; omega
  have HRR := hide hr
  clear h hR0 hr hb
  generalize hq : textR l.length (l.drop p) = q at HT HRR
  have HQ := hide hq
  clear hq
  go_enter Tryd.func34, Tryd.ntmps34
  go_wp2_with fail
  refine ((unhide HF) _ (unhide HR0)).mono ?_; rintro e1 w1 ⟨rfl, hb1⟩
  have hR1 := (unhide HR0).below hb1
  have hx1 := (hb1.block w.heap.size (by simp)).trans (heap_alloc_new _ _)
  have HX1 := hide hx1
  have HM1 := hide (World.grownBy.trans (World.grownBy_alloc w (.cells zeroCells 25) (some rb)) (belowGrown rb hb1))
  have hz1 : w.heap.size < w1.heap.size := by have := hb1.size; simp at this; omega
  have hr2 := hR1.c2
  have HR1 := hide hR1
  clear hb1 hR1 hx1
  go_wp2_with fail
  refine ((unhide HT) _ (unhide HR1)).mono ?_; rintro e1 w2 ⟨hg2, s, p', rfl, hcase⟩
  have hh2 : w2.heap[w.heap.size]? = some (.cells zeroCells 25 (0, 0)) := (hg2.block w.heap.size (by omega) (by simp; omega)).trans (unhide HX1)
  have HG2 : Hid (w.grownBy w2 (some rb)) := (unhide HM1).trans hg2
  have hz2 : w.heap.size < w2.heap.size := by have := hg2.size; omega
  have f0 := (boxAt hh2 0).1; have f1 := (boxAt hh2 1).1; have f2 := (boxAt hh2 2).1; have f3 := (boxAt hh2 3).1; have f4 := (boxAt hh2 4).1
  have g0 := (boxAt hh2 0).2; have g1 := (boxAt hh2 1).2; have g2 := (boxAt hh2 2).2; have g3 := (boxAt hh2 3).2; have g4 := (boxAt hh2 4).2
  simp at f0 f1 f2 f3 f4
  have HCASE := hide hcase
  clear hcase hg2 hh2 HT HF HX1 HM1 hr2
  go_wp2_with fail
  refine bodyPost_ret (v := vaV 2 0 s none 0 0 none 0 0) (by simp [results, Tryd.results34, go_sem, f0, f1, f2, f3, f4]) rfl ⟨set5 (unhide HG2) (Nat.le_refl _) _ _ _ _ _, 2, 0, s, none, 0, 0, none, 0, 0, p', rfl, ?_⟩
  have hcase := unhide HCASE
  rw [unhide HRR]
  cases q with
  | none => exact ⟨by have := hcase.1; omega, hcase.2.keep (below5 (by omega) _ _ _ _ _)⟩
  | some q =>
    obtain ⟨s', t⟩ := q
    obtain ⟨rfl, h1, h2, h3⟩ := hcase
    refine ⟨?_, h1, h2, h3.keep (below5 (by omega) _ _ _ _ _)⟩
    exact VIn.flat ⟨by decide, by decide⟩ ⟨by decide, by decide⟩ (by show s'.toArray.size ≤ _; have := textR_len (unhide HQ); simp; omega)
end Go.Proofs.YtclpbjdnollfcaaDoor
