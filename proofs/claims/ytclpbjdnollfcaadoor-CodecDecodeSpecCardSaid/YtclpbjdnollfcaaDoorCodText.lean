/- Contracts over the codec's program, each for all bytes: the reader's text and integer. -/
import Derived.Test.YtclpbjdnollfcaaDoorCodNumber
namespace Go.Proofs.YtclpbjdnollfcaaDoor
set_option linter.unusedSimpArgs false
set_option linter.unusedVariables false
open Go.RowKit

def textP (bs : List UInt8) : Option (List UInt8 × List UInt8) :=
  match numP 58 bs with
  | none => none
  | some (n, r) => if 0 ≤ n ∧ n ≤ (r.length : Int) then some (r.take n.toNat, r.drop n.toNat) else none

set_option maxHeartbeats 2000000 in
theorem text_res (w : World) (rb : Nat) (bs : List UInt8) (h : RdAt w rb bs) (hE : Env w) (hw : gTop ≤ w.heap.size) (hrb : gTop ≤ rb) (r : Option (List UInt8 × List UInt8)) (hres : r = textP bs) :
    Calls Tryd.prog 51 #[.pointer (some ⟨rb, 0, none⟩)] w (Ends rb r (fun s v _ => v = .string ⟨s.toArray⟩) w) := by
  have hN := number_any 58 w rb bs h hE hw hrb
  unfold textP at hres
  have HRES := hide hres
  generalize numP 58 bs = q at hN HRES
  clear hres h
  cases q with
  | none =>
    obtain rfl := unhide HRES
    have HN : Hid (Calls Tryd.prog 60 #[.pointer (some ⟨rb, 0, none⟩), .int .u8 58] w (Dead rb w)) := hN
    clear hN hE
    go_enter Tryd.func51, Tryd.ntmps51
    go_wp2_with fail
    refine (unhide HN).mono ?_; rintro e w1 ⟨rfl, hg⟩
    go_wp2_with fail
    exact ⟨rfl, rfl, hg⟩
  | some p =>
    obtain ⟨n, rest⟩ := p
    have HN : Hid (Calls Tryd.prog 60 #[.pointer (some ⟨rb, 0, none⟩), .int .u8 58] w (Took rb rest (fun v _ => v = .int .i64 n) w)) := hN
    clear hN hE
    by_cases hn : 0 ≤ n ∧ n ≤ (rest.length : Int)
    · have hr := unhide HRES
      simp only [if_pos hn] at hr
      obtain ⟨k, hk⟩ : ∃ k : Nat, n = k := ⟨n.toNat, by omega⟩
      subst hk
      obtain rfl := hr
      simp only [Int.toNat_natCast]
      have hkl : k ≤ rest.length := by omega
      have HKL := hide hkl
      clear hn hkl HRES
      go_enter Tryd.func51, Tryd.ntmps51
      go_wp2_with fail
      refine (unhide HN).mono ?_; rintro e w1 ⟨_, rfl, rfl, hr, hg⟩
      have HR := hide hr; have HG := hide hg; clear hr hg
      go_wp2_with fail
      refine (take_any k w1 rb rest (unhide HR) (unhide HKL)).mono ?_; rintro e w2 ⟨v2, rfl, hv2, hr2, hg2⟩
      have hcv := conv_any hv2
      have HR2 := hide hr2; have HG2 := hide hg2; clear hr2 hg2 hv2
      obtain ⟨ds, hds⟩ : ∃ ds, rest.take k = ds := ⟨_, rfl⟩
      rw [hds] at hcv
      have HDS := hide hds
      clear hds
      go_wp2_with fail
      go_ret
      exact ⟨_, rfl, by rw [unhide HDS]; rfl, unhide HR2, grownTrans (unhide HG) (unhide HG2)⟩
    · have hr := unhide HRES
      simp only [if_neg hn] at hr
      obtain rfl := hr
      have HNN := hide hn
      clear hn HRES
      go_enter Tryd.func51, Tryd.ntmps51
      go_wp2_with fail
      refine (unhide HN).mono ?_; rintro e w1 ⟨_, rfl, rfl, hr, hg⟩
      have HR := hide hr; have HG := hide hg; clear hr hg
      go_wp2_with fail
      refine (take_bad n w1 rb rest (unhide HR) (by have := unhide HNN; omega)).mono ?_; rintro e w2 ⟨rfl, hg2⟩
      have HG2 := hide hg2; clear hg2
      go_wp2_with fail
      exact ⟨rfl, rfl, grownTrans (unhide HG) (unhide HG2)⟩
theorem text_any' (w : World) (rb : Nat) (bs : List UInt8) (h : RdAt w rb bs) (hE : Env w) (hw : gTop ≤ w.heap.size) (hrb : gTop ≤ rb) :
    Calls Tryd.prog 51 #[.pointer (some ⟨rb, 0, none⟩)] w (Ends rb (textP bs) (fun s v _ => v = .string ⟨s.toArray⟩) w) := text_res w rb bs h hE hw hrb _ rfl

/-- a block that is new in w: five cells of a value, in every later world that writes the reader's block alone -/
abbrev zeroCells : Array Value := #[.int .i64 0, .int .i64 0, .string ⟨#[]⟩, .slice none 0 0, .slice none 0 0]
theorem boxAt {W : World} {N : Nat} {cs : Array Value} {t : TypeId} (h : W.heap[N]? = some (.cells cs t (0, 0))) : ∀ i, W.cell? ⟨N, i, none⟩ = cs[i]? ∧ W.frozen? ⟨N, i, none⟩ = false := fun i =>
  ⟨cell_of_row W N i cs t (0, 0) h, frozen_of_row W N i cs t h⟩
theorem setN {w W : World} {rb N : Nat} (h : w.grownBy W (some rb)) (hN : w.heap.size ≤ N) (o : Nat) (x : Value) : w.grownBy (W.setCell ⟨N, o, none⟩ x) (some rb) :=
  ⟨h.os, h.tape, h.output, by show _ ≤ (W.heap.modify _ _).size; rw [Array.size_modify]; exact h.size, fun k hk hne => (Below.heap_setCell _ _ _ _ (by show k ≠ N; omega)).trans (h.block k hk hne)⟩
theorem set5 {w W : World} {rb N : Nat} (h : w.grownBy W (some rb)) (hN : w.heap.size ≤ N) (x0 x1 x2 x3 x4 : Value) :
    w.grownBy (((((W.setCell ⟨N, 0, none⟩ x0).setCell ⟨N, 1, none⟩ x1).setCell ⟨N, 2, none⟩ x2).setCell ⟨N, 3, none⟩ x3).setCell ⟨N, 4, none⟩ x4) (some rb) :=
  setN (setN (setN (setN (setN h hN _ _) hN _ _) hN _ _) hN _ _) hN _ _
theorem below5 {W : World} {B N : Nat} (hN : B ≤ N) (x0 x1 x2 x3 x4 : Value) :
    Below B W (((((W.setCell ⟨N, 0, none⟩ x0).setCell ⟨N, 1, none⟩ x1).setCell ⟨N, 2, none⟩ x2).setCell ⟨N, 3, none⟩ x3).setCell ⟨N, 4, none⟩ x4) :=
  (((((Below.refl _ _).setCell hN _).setCell hN _).setCell hN _).setCell hN _).setCell hN _

set_option maxHeartbeats 2000000 in
theorem integer_res (w : World) (rb : Nat) (b : UInt8) (bs : List UInt8) (h : RdAt w rb (b :: bs)) (hE : Env w) (hw : gTop ≤ w.heap.size) (hrb : gTop ≤ rb) (r : Option (Int × List UInt8)) (hres : r = numP 101 bs) :
    Calls Tryd.prog 48 #[.pointer (some ⟨rb, 0, none⟩)] w (Ends rb r (fun n v w' => v = vaV 1 n ⟨#[]⟩ none 0 0 none 0 0) w) := by
  have hlt := h.lt
  have hT := fun (W : World) (hW : Below w.heap.size w W) => take_any 1 W rb (b :: bs) (h.below hW) (by simp)
  have HT := hide hT
  have HE := hide hE; have HRES := hide hres
  clear h hE hres hT
  go_enter Tryd.func48, Tryd.ntmps48
  go_wp2_with fail
  refine ((unhide HT) _ ((Below.refl _ _).alloc (Nat.le_refl _) _)).mono ?_; rintro e w1 ⟨v1, rfl, _, hr1, hg1⟩
  have hh1 : w1.heap[w.heap.size]? = some (.cells zeroCells 25 (0, 0)) := by
    rw [hg1.block w.heap.size (by simp) (by simp; omega)]
    exact heap_alloc_new _ _
  have HH1 := hide hh1
  have HG1 : Hid (w.grownBy w1 (some rb)) := World.grownBy.trans (World.grownBy_alloc w _ (some rb)) hg1
  have hz1 : w.heap.size < w1.heap.size := by have := hg1.size; simp at this; omega
  have hN := number_any 101 w1 rb bs hr1 ((unhide HE).grown (unhide HG1) hw hrb) (by omega) hrb
  rw [← unhide HRES] at hN
  clear hr1 hg1 hh1
  cases r with
  | none =>
    have HN : Hid (Calls Tryd.prog 60 #[.pointer (some ⟨rb, 0, none⟩), .int .u8 101] w1 (Dead rb w1)) := hN
    clear hN
    go_wp2_with fail
    refine (unhide HN).mono ?_; rintro e w2 ⟨rfl, hg2⟩
    go_wp2_with fail
    exact ⟨rfl, rfl, grownTrans (unhide HG1) hg2⟩
  | some p =>
    obtain ⟨n, rest⟩ := p
    have HN : Hid (Calls Tryd.prog 60 #[.pointer (some ⟨rb, 0, none⟩), .int .u8 101] w1 (Took rb rest (fun v _ => v = .int .i64 n) w1)) := hN
    clear hN
    go_wp2_with fail
    refine (unhide HN).mono ?_; rintro e w2 ⟨_, rfl, rfl, hr2, hg2⟩
    have hh2 : w2.heap[w.heap.size]? = some (.cells zeroCells 25 (0, 0)) := by
      rw [hg2.block w.heap.size hz1 (by simp; omega)]
      exact unhide HH1
    have HG2 := hide (grownTrans (unhide HG1) hg2); have HR2 := hide hr2
    have f0 := (boxAt hh2 0).1; have f1 := (boxAt hh2 1).1; have f2 := (boxAt hh2 2).1; have f3 := (boxAt hh2 3).1; have f4 := (boxAt hh2 4).1
    have g0 := (boxAt hh2 0).2; have g1 := (boxAt hh2 1).2; have g2 := (boxAt hh2 2).2; have g3 := (boxAt hh2 3).2; have g4 := (boxAt hh2 4).2
    simp at f0 f1 f2 f3 f4
    clear hr2 hg2 hh2
    go_wp2_with fail
    exact bodyPost_ret (v := vaV 1 n ⟨#[]⟩ none 0 0 none 0 0) (by simp [results, Tryd.results48, go_sem, f0, f1, f2, f3, f4]) rfl ⟨_, rfl, rfl, (unhide HR2).keep (below5 (by omega) _ _ _ _ _), set5 (unhide HG2) (Nat.le_refl _) _ _ _ _ _⟩
end Go.Proofs.YtclpbjdnollfcaaDoor
