/- Contracts over the codec's program, each for all bytes: the reader's first, take. Contracts over the codec's program, each for all bytes: the reader's open, closes, number. -/
import Derived.Test.YtdmaopfaeigelaaGreatDoorCodWrite3
import Derived.WalkLawsBesides
import Derived.OneCell
import Derived.Laws.BytesArg
import Derived.Laws.IdiomStrings
namespace Go.Proofs.YtdmaopfaeigelaaGreatDoor
set_option linter.unusedSimpArgs false
set_option linter.unusedVariables false
open Go.RowKit

/-- the bytes at A, in another block than the reader's -/
def BytesAt (w : World) (rb : Nat) (A : Option Addr) (bs : List UInt8) : Prop :=
  ∀ (i : Nat) (b : UInt8), bs[i]? = some b → ∃ g o, A = some ⟨g, o, none⟩ ∧ g < rb ∧ w.cell? ⟨g, o + i, none⟩ = some (.int .u8 (b.toNat : Int))
theorem BytesAt.keep {w w' : World} {rb : Nat} {A : Option Addr} {bs : List UInt8} (h : BytesAt w rb A bs) (hb : Below rb w w') : BytesAt w' rb A bs := by
  intro i b hi
  obtain ⟨g, o, e, hne, hc⟩ := h i b hi
  exact ⟨g, o, e, hne, (hb.cell (p := ⟨g, o + i, none⟩) hne).trans hc⟩
/-- the reader at block rb has these bytes before it -/
def RdAt (w : World) (rb : Nat) (bs : List UInt8) : Prop :=
  ∃ A, (A = none ∧ bs = [] ∨ ∃ g o, A = some ⟨g, o, none⟩ ∧ g < rb) ∧ w.heap[rb]? = some (.cells #[.slice A bs.length bs.length] 96 (0, 0)) ∧ BytesAt w rb A bs ∧ bs.length ≤ 1000000000
theorem RdAt.open {w : World} {rb : Nat} {bs : List UInt8} (h : RdAt w rb bs) : ∃ A, (A = none ∧ bs = [] ∨ ∃ g o, A = some ⟨g, o, none⟩ ∧ g < rb) ∧ w.cell? ⟨rb, 0, none⟩ = some (.slice A bs.length bs.length) ∧ w.frozen? ⟨rb, 0, none⟩ = false ∧ BytesAt w rb A bs ∧
    bs.length ≤ 1000000000 ∧ w.heap[rb]? = some (.cells #[.slice A bs.length bs.length] 96 (0, 0)) := by
  obtain ⟨A, hA, hh, hb, hl⟩ := h
  exact ⟨A, hA, cell_of_one hh, free_of_one hh, hb, hl, hh⟩
abbrev deadE : Ending := .panicked [{ v := .iface 48 (.int .i64 20), recovered := false }]
/-- the method has panicked -/
def Dead (rb : Nat) (w : World) (e : Ending) (w' : World) : Prop := e = deadE ∧ w.grownBy w' (some rb)
/-- the method has handed back a value; these bytes are left -/
def Took (rb : Nat) (rest : List UInt8) (val : Value → World → Prop) (w : World) (e : Ending) (w' : World) : Prop :=
  ∃ v, e = .returned v ∧ val v w' ∧ RdAt w' rb rest ∧ w.grownBy w' (some rb)

theorem BytesAt.nil (w : World) (rb : Nat) (A : Option Addr) : BytesAt w rb A [] := fun i b h => by simp at h
theorem BytesAt.grown {w w' : World} {rb : Nat} {A : Option Addr} {bs : List UInt8} (h : BytesAt w rb A bs) (hg : w.grownBy w' (some rb)) : BytesAt w' rb A bs := by
  intro i b hb
  obtain ⟨g, o, e, hne, hc⟩ := h i b hb
  exact ⟨g, o, e, hne, hg.cell hc (fun e => absurd (by simpa using e) (Nat.ne_of_lt hne))⟩
theorem BytesAt.row {w : World} {rb : Nat} {A : Option Addr} {bs : List UInt8} (h : BytesAt w rb A bs) (h0 : 0 < bs.length) :
    ∃ g o, A = some ⟨g, o, none⟩ ∧ g < rb ∧ g < w.heap.size ∧ ∀ (i : Nat) (b : UInt8), bs[i]? = some b → w.cell? ⟨g, o + i, none⟩ = some (.int .u8 (b.toNat : Int)) := by
  obtain ⟨g, o, rfl, hne, hc⟩ := h 0 _ (List.getElem?_eq_getElem h0)
  refine ⟨g, o, rfl, hne, World.block_lt_of_cell? w _ hc, fun i b hb => ?_⟩
  obtain ⟨g', o', e, _, hc'⟩ := h i b hb
  injection e with e
  injection e with e1 e2
  subst e1 e2
  exact hc'
theorem BytesAt.take {w : World} {rb : Nat} {A : Option Addr} {bs : List UInt8} (m : Nat) (h : BytesAt w rb A bs) : BytesAt w rb A (bs.take m) := by
  intro i b hb
  rw [List.getElem?_take] at hb
  split at hb
  · exact h i b hb
  · cases hb
theorem BytesAt.drop {w : World} {rb g o : Nat} {bs : List UInt8} (m : Nat) (h : BytesAt w rb (some ⟨g, o, none⟩) bs) : BytesAt w rb (some ⟨g, o + m, none⟩) (bs.drop m) := by
  intro i b hb
  rw [List.getElem?_drop] at hb
  obtain ⟨g', o', e, hne, hc⟩ := h (m + i) b hb
  injection e with e
  injection e with e1 e2
  subst e1 e2
  exact ⟨g, o + m, rfl, hne, by rw [show o + m + i = o + (m + i) by omega]; exact hc⟩

theorem first_nil (w : World) (rb : Nat) (h : RdAt w rb []) : Calls Tryz.prog 102 #[.pointer (some ⟨rb, 0, none⟩)] w (Dead rb w) := by
  obtain ⟨A, _, hc, hf, _, _, _⟩ := h.open
  simp only [List.length_nil] at hc
  go_enter Tryz.func102, Tryz.ntmps102
  go_wp2_with fail
  exact ⟨rfl, rfl, World.grownBy.refl _ _⟩
theorem first_cons (w : World) (rb : Nat) (b : UInt8) (bs : List UInt8) (h : RdAt w rb (b :: bs)) :
    Calls Tryz.prog 102 #[.pointer (some ⟨rb, 0, none⟩)] w fun e w' => e = .returned (.int .u8 (b.toNat : Int)) ∧ w' = w := by
  obtain ⟨A, _, hc, hf, hb, hl, _⟩ := h.open
  obtain ⟨g, o, rfl, hne, hlt, hr⟩ := hb.row (by simp)
  have c0 := hr 0 b rfl
  simp only [Nat.add_zero] at c0
  have hlen : (((b :: bs).length : Int) == 0) = false := by simp; omega
  have hpos : (0 : Nat) < (b :: bs).length := by simp
  generalize (b :: bs).length = m at hc hlen hpos
  go_enter Tryz.func102, Tryz.ntmps102
  go_wp2_with fail
  go_ret
  exact ⟨rfl, rfl⟩

def TookBytes (rb : Nat) (bs : List UInt8) (v : Value) (w : World) : Prop := ∃ A, (A = none ∧ bs = [] ∨ ∃ g o, A = some ⟨g, o, none⟩ ∧ g < rb) ∧ v = .slice A bs.length bs.length ∧ BytesAt w rb A bs

set_option maxHeartbeats 1000000 in
theorem take_bad (n : Int) (w : World) (rb : Nat) (bs : List UInt8) (h : RdAt w rb bs) (hn : n < 0 ∨ (bs.length : Int) < n) : Calls Tryz.prog 181 #[.pointer (some ⟨rb, 0, none⟩), .int .i64 n] w (Dead rb w) := by
  obtain ⟨A, _, hc, hf, _, _, _⟩ := h.open
  generalize bs.length = m at hc hn
  by_cases h1 : n < 0
  · have b1 : decide (n < 0) = true := decide_eq_true h1
    go_enter Tryz.func181, Tryz.ntmps181
    go_wp2_with fail
    exact ⟨rfl, rfl, World.grownBy.refl _ _⟩
  · have b1 : decide (n < 0) = false := decide_eq_false h1
    have b2 : decide ((m : Int) < n) = true := decide_eq_true (by omega)
    go_enter Tryz.func181, Tryz.ntmps181
    go_wp2_with fail
    exact ⟨rfl, rfl, World.grownBy.refl _ _⟩

set_option maxRecDepth 100000 in
set_option maxHeartbeats 2000000 in
theorem take_some (k m rb g o : Nat) (w : World) (hk : k ≤ m) (hm : m ≤ 140737488351232) (hc : w.cell? ⟨rb, 0, none⟩ = some (.slice (some ⟨g, o, none⟩) m m)) (hf : w.frozen? ⟨rb, 0, none⟩ = false) :
    Calls Tryz.prog 181 #[.pointer (some ⟨rb, 0, none⟩), .int .i64 (k : Int)] w fun e w' => ∃ o', e = .returned (.slice (some ⟨g, o, none⟩) k k) ∧
      (k < m → o' = o + k) ∧ w' = (w.setCell ⟨rb, 0, none⟩ (.slice (some ⟨g, o', none⟩) (m - k) (m - k))).drew := by
  have b1 : decide ((k : Int) < 0) = false := decide_eq_false (by omega)
  have b2 : decide ((m : Int) < (k : Int)) = false := decide_eq_false (by omega)
  have hk0 : (0 : Int) ≤ (k : Int) := Int.natCast_nonneg _
  have hk1 : (k : Int) ≤ (m : Int) := by omega
  have hm0 : (0 : Int) ≤ (m : Int) := Int.natCast_nonneg _
  have hmm : (m : Int) ≤ (m : Int) := Int.le_refl _
  by_cases hkm : k = m
  · subst hkm
    go_enter Tryz.func181, Tryz.ntmps181
    go_wp2_with fail
    refine still_tail 19 (by kernel_rfl) (by kernel_rfl) ?_
    simp only [List.take_succ_cons, List.take_zero, List.drop_succ_cons, List.drop_zero]
    repeat still_step
    refine wpStill_nil ?_
    go_wp2_with fail
    go_ret
    exact ⟨o, rfl, fun h => absurd h (by omega), by rw [Nat.sub_self]⟩
  · have hlt : k < m := by omega
    have hne : ¬ m = k := by omega
    go_enter Tryz.func181, Tryz.ntmps181
    go_wp2_with fail
    refine still_tail 19 (by kernel_rfl) (by kernel_rfl) ?_
    simp only [List.take_succ_cons, List.take_zero, List.drop_succ_cons, List.drop_zero]
    repeat still_step
    refine wpStill_nil ?_
    go_wp2_with fail
    go_ret
    exact ⟨o + k, rfl, fun h => rfl, rfl⟩

set_option maxRecDepth 100000 in
set_option maxHeartbeats 2000000 in
theorem take_nil (rb : Nat) (w : World) (hc : w.cell? ⟨rb, 0, none⟩ = some (.slice none 0 0)) (hf : w.frozen? ⟨rb, 0, none⟩ = false) :
    Calls Tryz.prog 181 #[.pointer (some ⟨rb, 0, none⟩), .int .i64 0] w fun e w' => e = .returned (.slice none 0 0) ∧ w' = (w.setCell ⟨rb, 0, none⟩ (.slice none 0 0)).drew := by
  have b1 : decide ((0 : Int) < 0) = false := by decide
  go_enter Tryz.func181, Tryz.ntmps181
  go_wp2_with fail
  refine still_tail 19 (by kernel_rfl) (by kernel_rfl) ?_
  simp only [List.take_succ_cons, List.take_zero, List.drop_succ_cons, List.drop_zero]
  repeat still_step
  refine wpStill_nil ?_
  go_wp2_with fail
  go_ret
  exact ⟨rfl, rfl⟩

theorem grownSet {w : World} {rb : Nat} (v : Value) : w.grownBy ((w.setCell ⟨rb, 0, none⟩ v).drew) (some rb) :=
  ⟨rfl, rfl, rfl, by simp [World.setCell], fun k hk hne => Below.heap_setCell _ _ _ _ (fun e => hne (by rw [e]))⟩

theorem take_any (k : Nat) (w : World) (rb : Nat) (bs : List UInt8) (h : RdAt w rb bs) (hk : k ≤ bs.length) :
    Calls Tryz.prog 181 #[.pointer (some ⟨rb, 0, none⟩), .int .i64 (k : Int)] w (Took rb (bs.drop k) (TookBytes rb (bs.take k)) w) := by
  obtain ⟨A, hA, hc, hf, hb, hl, hh⟩ := h.open
  rcases hA with ⟨rfl, rfl⟩ | ⟨g, o, rfl, hne⟩
  · simp only [List.length_nil] at hk hc
    obtain rfl : k = 0 := by omega
    refine (take_nil rb w hc hf).mono ?_
    rintro e w' ⟨rfl, rfl⟩
    refine ⟨_, rfl, ⟨none, .inl ⟨rfl, rfl⟩, rfl, BytesAt.nil _ _ _⟩, ⟨none, .inl ⟨rfl, rfl⟩, one_setCell hh, BytesAt.nil _ _ _, by simp⟩, grownSet _⟩
  · refine (take_some k bs.length rb g o w hk (by omega) hc hf).mono ?_
    rintro e w' ⟨o', rfl, hA, rfl⟩
    have hgr := grownSet (w := w) (rb := rb) (.slice (some ⟨g, o', none⟩) (bs.length - k) (bs.length - k))
    have hb' := hb.grown hgr
    refine ⟨_, rfl, ⟨some ⟨g, o, none⟩, .inr ⟨g, o, rfl, hne⟩, by rw [List.length_take, Nat.min_eq_left hk], hb'.take k⟩, ?_, hgr⟩
    by_cases hlt : k < bs.length
    · obtain rfl := hA hlt
      refine ⟨some ⟨g, o + k, none⟩, .inr ⟨g, o + k, rfl, hne⟩, ?_, hb'.drop k, by simp; omega⟩
      rw [List.length_drop]
      exact one_setCell hh
    · have e : bs.drop k = [] := List.drop_eq_nil_of_le (by omega)
      rw [e]
      refine ⟨some ⟨g, o', none⟩, .inr ⟨g, o', rfl, hne⟩, ?_, BytesAt.nil _ _ _, by simp⟩
      have := one_setCell (u := .slice (some ⟨g, o', none⟩) (bs.length - k) (bs.length - k)) hh
      rw [show bs.length - k = 0 by omega] at this ⊢
      exact this
end Go.Proofs.YtdmaopfaeigelaaGreatDoor
namespace Go.Proofs.YtdmaopfaeigelaaGreatDoor
set_option linter.unusedSimpArgs false
set_option linter.unusedVariables false
open Go.RowKit

/-- the package-level variables that the library reads, in every world that leaves them alone -/
abbrev gTop : Nat := 8 + 1
def Env (w : World) : Prop := ∀ w', Below gTop w w' → Lib.TabIs Tryz.prog w' "internal/strconv.uint64pow10" .u64 Lib.pow10Tab ∧
  (∃ t p, w'.cell? ⟨4, 0, none⟩ = some (.iface t p)) ∧ (∃ t p, w'.cell? ⟨5, 0, none⟩ = some (.iface t p))
theorem Env.along {w w' : World} (h : Env w) (hb : Below gTop w w') : Env w' := fun w'' h' => h w'' (hb.trans h')
theorem grownBelow {w w' : World} {rb : Nat} {B : Nat} (h : w.grownBy w' (some rb)) (hB : B ≤ w.heap.size) (hr : B ≤ rb) : Below B w w' := (Below.refl B w).grown h hB (fun k hk => by injection hk with hk; omega)
theorem Env.grown {w w' : World} {rb : Nat} (h : Env w) (hg : w.grownBy w' (some rb)) (hs : gTop ≤ w.heap.size) (hr : gTop ≤ rb) : Env w' := h.along (grownBelow hg hs hr)
theorem belowGrown {w w' : World} (rb : Nat) (h : Below w.heap.size w w') : w.grownBy w' (some rb) := ⟨h.os, h.tape, h.output, h.size, fun k hk _ => h.block k hk⟩
theorem RdAt.lt {w : World} {rb : Nat} {bs : List UInt8} (h : RdAt w rb bs) : rb < w.heap.size := by
  obtain ⟨A, _, hc, _⟩ := h.open
  exact World.block_lt_of_cell? w _ hc
theorem RdAt.below {w w' : World} {rb : Nat} {bs : List UInt8} (h : RdAt w rb bs) (hb : Below w.heap.size w w') : RdAt w' rb bs := by
  have hlt := h.lt
  obtain ⟨A, hA, hh, hb', hl⟩ := h
  exact ⟨A, hA, (hb.block rb hlt).trans hh, hb'.grown (belowGrown rb hb), hl⟩

theorem RdAt.keep {w w' : World} {rb : Nat} {bs : List UInt8} (h : RdAt w rb bs) (hb : Below (rb + 1) w w') : RdAt w' rb bs := by
  obtain ⟨A, hA, hh, hb', hl⟩ := h
  exact ⟨A, hA, (hb.block rb (by omega)).trans hh, hb'.keep (hb.mono (by omega)), hl⟩
/-- a value that has been read does not lie in the reader's own block -/
theorem VAt.grownR {w w' : World} {rb : Nat} {x : Value} {t : TypeId} {fz : Nat × Nat} {V : Va} {v : Value} (hh : w.heap[rb]? = some (.cells #[x] t fz)) (hx : ∀ s, x ≠ .string s) (h : VAt w V v) (hg : w.grownBy w' (some rb)) : VAt w' V v := by
  induction h with
  | mk k n s l ks A c A' c' hk hn hs hl hks hA hA' hcp b o vv h5 hat hkat ih =>
    refine .mk k n s l ks A c A' c' hk hn hs hl hks hA hA' hcp b o vv (fun i hi => ⟨(h5 i hi).1, ?_⟩) ih ?_
    · obtain ⟨_, x0, x1, x2, x3, x4, e, c0, c1, c2, c3, c4⟩ := h5 i hi
      have hne : b ≠ rb := by
        intro e
        subst e
        rw [cell_of_row w b _ _ t fz hh] at c1
        simp at c1
      have hr : some b ≠ some rb := fun e => hne (by simpa using e)
      exact ⟨x0, x1, x2, x3, x4, e, hg.cell c0 hr, hg.cell c1 hr, hg.cell c2 hr, hg.cell c3 hr, hg.cell c4 hr⟩
    · intro i s hs
      obtain ⟨b', o', e, hc, hz⟩ := hkat i s hs
      have hne : b' ≠ rb := by
        intro e
        subst e
        rw [cell_of_row w b' _ _ t fz hh] at hc
        have := List.getElem?_eq_some_iff.1 (by simpa using hc : [x][o' + i]? = some (.string s))
        obtain ⟨h1, h2⟩ := this
        simp at h1
        simp [h1] at h2
        exact hx s h2
      exact ⟨b', o', e, hg.cell hc (fun e => hne (by simpa using e)), hz⟩

theorem conv_any {w : World} {rb : Nat} {bs : List UInt8} {v : Value} (h : TookBytes rb bs v w) : (convert 52 9 v).run Tryz.prog w = .ok (.string ⟨bs.toArray⟩) w := by
  obtain ⟨A, hA, rfl, hb⟩ := h
  rcases hA with ⟨rfl, rfl⟩ | ⟨g, o, rfl, hne⟩
  · exact run_convert_bytes_nil w 52 5 Tryz.underlying52 Tryz.underlying5 0 0 9 Tryz.underlying9
  · refine run_convert_bytes_back w 52 9 5 ⟨g, o, none⟩ bs.length bs Tryz.underlying52 Tryz.underlying5 Tryz.underlying9 fun j hj => ?_
    obtain ⟨g', o', e, _, hc⟩ := hb j _ (List.getElem?_eq_getElem hj)
    injection e with e
    injection e with e1 e2
    subst e1 e2
    have : (⟨g, o, none⟩ : Addr).add j = ⟨g, o + j, none⟩ := by
      unfold Addr.add
      split
      · rename_i e; simp [e]
      · rfl
    rw [this]
    exact hc

theorem open_any (d : Int) (w : World) (rb : Nat) (b : UInt8) (bs : List UInt8) (h : RdAt w rb (b :: bs)) (hd : 1 ≤ d) :
    Calls Tryz.prog 183 #[.pointer (some ⟨rb, 0, none⟩), .int .i64 d] w (Took rb bs (fun v _ => v = .tuple #[]) w) := by
  have hT := take_any 1 w rb (b :: bs) h (by simp)
  have HT := hide hT
  have b1 : decide (d < 1) = false := decide_eq_false (by omega)
  clear hT h
  go_enter Tryz.func183, Tryz.ntmps183
  go_wp2_with fail
  refine (unhide HT).mono ?_; rintro e w1 ⟨v, rfl, _, hr, hg⟩
  go_wp2_with fail
  exact bodyPost_ret (v := .tuple #[]) (by simp [results, Tryz.results183, go_sem]) rfl ⟨_, rfl, rfl, hr, hg⟩
theorem open_bad (d : Int) (w : World) (rb : Nat) (hd : d < 1) :
    Calls Tryz.prog 183 #[.pointer (some ⟨rb, 0, none⟩), .int .i64 d] w (Dead rb w) := by
  have b1 : decide (d < 1) = true := decide_eq_true hd
  go_enter Tryz.func183, Tryz.ntmps183
  go_wp2_with fail
  exact ⟨rfl, rfl, World.grownBy.refl _ _⟩

theorem closes_nil (w : World) (rb : Nat) (h : RdAt w rb []) : Calls Tryz.prog 184 #[.pointer (some ⟨rb, 0, none⟩)] w (Dead rb w) := by
  have HF := hide (first_nil w rb h)
  go_enter Tryz.func184, Tryz.ntmps184
  go_wp2_with fail
  refine (unhide HF).mono ?_; rintro e w1 ⟨rfl, hg⟩
  go_wp2_with fail
  exact ⟨rfl, rfl, hg⟩
theorem closes_no (w : World) (rb : Nat) (b : UInt8) (bs : List UInt8) (h : RdAt w rb (b :: bs)) (hb : b.toNat ≠ 101) : Calls Tryz.prog 184 #[.pointer (some ⟨rb, 0, none⟩)] w fun e w' => e = .returned (.bool false) ∧ w' = w := by
  have HF := hide (first_cons w rb b bs h)
  have b1 : ((b.toNat : Int) != 101) = true := by simp; omega
  go_enter Tryz.func184, Tryz.ntmps184
  go_wp2_with fail
  refine (unhide HF).mono ?_; rintro e w1 ⟨rfl, rfl⟩
  go_wp2_with fail
  go_ret
  exact ⟨rfl, rfl⟩
theorem closes_yes (w : World) (rb : Nat) (b : UInt8) (bs : List UInt8) (h : RdAt w rb (b :: bs)) (hb : b.toNat = 101) : Calls Tryz.prog 184 #[.pointer (some ⟨rb, 0, none⟩)] w (Took rb bs (fun v _ => v = .bool true) w) := by
  have HF := hide (first_cons w rb b bs h)
  have HT := hide (take_any 1 w rb (b :: bs) h (by simp))
  have b1 : ((b.toNat : Int) != 101) = false := by simp; omega
  clear h
  go_enter Tryz.func184, Tryz.ntmps184
  go_wp2_with fail
  refine (unhide HF).mono ?_; rintro e w1 ⟨rfl, rfl⟩
  go_wp2_with fail
  refine (unhide HT).mono ?_; rintro e w2 ⟨v, rfl, _, hr, hg⟩
  go_wp2_with fail
  go_ret
  exact ⟨_, rfl, rfl, hr, hg⟩
end Go.Proofs.YtdmaopfaeigelaaGreatDoor
