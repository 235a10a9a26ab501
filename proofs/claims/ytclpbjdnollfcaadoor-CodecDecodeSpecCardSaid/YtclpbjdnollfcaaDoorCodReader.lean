/- Contracts over the codec's program, each for all bytes: the reader's first, take. -/
import Derived.Test.YtclpbjdnollfcaaDoorCodWrite3
import Derived.WalkLawsBesides
import Derived.OneCell
namespace Go.Proofs.YtclpbjdnollfcaaDoor
set_option linter.unusedSimpArgs false
set_option linter.unusedVariables false
open Go.RowKit

/-- the bytes at A, in another block than the reader's -/
def BytesAt (w : World) (rb : Nat) (A : Option Addr) (bs : List UInt8) : Prop :=
  ∀ (i : Nat) (b : UInt8), bs[i]? = some b → ∃ g o, A = some ⟨g, o, none⟩ ∧ g < rb ∧ w.cell? ⟨g, o + i, none⟩ = some (.int .u8 (b.toNat : Int))
theorem BytesAt.keep {w w' : World} {rb : Nat} {A : Option Addr} {bs : List UInt8} (h : BytesAt w rb A bs) (hb : Below rb w w') : BytesAt w' rb A bs := by
  intro i b hi
  obtain ⟨g, o, e, hne, hc⟩ := h i b hi
  exact ⟨g, o, e, hne, (hb.cell (p := ⟨g, o + i, none⟩) hne).trans hc⟩
/-- the reader at block rb has these bytes before it -/
def RdAt (w : World) (rb : Nat) (bs : List UInt8) : Prop :=
  ∃ A, (A = none ∧ bs = [] ∨ ∃ g o, A = some ⟨g, o, none⟩ ∧ g < rb) ∧ w.heap[rb]? = some (.cells #[.slice A bs.length bs.length] 52 (0, 0)) ∧ BytesAt w rb A bs ∧ bs.length ≤ 1000000000
theorem RdAt.open {w : World} {rb : Nat} {bs : List UInt8} (h : RdAt w rb bs) : ∃ A, (A = none ∧ bs = [] ∨ ∃ g o, A = some ⟨g, o, none⟩ ∧ g < rb) ∧ w.cell? ⟨rb, 0, none⟩ = some (.slice A bs.length bs.length) ∧ w.frozen? ⟨rb, 0, none⟩ = false ∧ BytesAt w rb A bs ∧
    bs.length ≤ 1000000000 ∧ w.heap[rb]? = some (.cells #[.slice A bs.length bs.length] 52 (0, 0)) := by
  obtain ⟨A, hA, hh, hb, hl⟩ := h
  exact ⟨A, hA, cell_of_one hh, free_of_one hh, hb, hl, hh⟩
abbrev deadE : Ending := .panicked [{ v := .iface 29 (.int .i64 20), recovered := false }]
/-- the method has panicked -/
def Dead (rb : Nat) (w : World) (e : Ending) (w' : World) : Prop := e = deadE ∧ w.grownBy w' (some rb)
/-- the method has handed back a value; these bytes are left -/
def Took (rb : Nat) (rest : List UInt8) (val : Value → World → Prop) (w : World) (e : Ending) (w' : World) : Prop :=
  ∃ v, e = .returned v ∧ val v w' ∧ RdAt w' rb rest ∧ w.grownBy w' (some rb)

theorem BytesAt.nil (w : World) (rb : Nat) (A : Option Addr) : BytesAt w rb A [] := fun i b h => by simp at h
theorem BytesAt.grown {w w' : World} {rb : Nat} {A : Option Addr} {bs : List UInt8} (h : BytesAt w rb A bs) (hg : w.grownBy w' (some rb)) : BytesAt w' rb A bs := by
  intro i b hb
  obtain ⟨g, o, e, hne, hc⟩ := h i b hb
  exact ⟨g, o, e, hne, hg.cell hc (fun e => absurd (by simpa using e) (Nat.ne_of_lt hne))⟩
theorem BytesAt.row {w : World} {rb : Nat} {A : Option Addr} {bs : List UInt8} (h : BytesAt w rb A bs) (h0 : 0 < bs.length) :
    ∃ g o, A = some ⟨g, o, none⟩ ∧ g < rb ∧ g < w.heap.size ∧ ∀ (i : Nat) (b : UInt8), bs[i]? = some b → w.cell? ⟨g, o + i, none⟩ = some (.int .u8 (b.toNat : Int)) := by
  obtain ⟨g, o, rfl, hne, hc⟩ := h 0 _ (List.getElem?_eq_getElem h0)
  refine ⟨g, o, rfl, hne, World.block_lt_of_cell? w _ hc, fun i b hb => ?_⟩
  obtain ⟨g', o', e, _, hc'⟩ := h i b hb
  injection e with e
  injection e with e1 e2
  subst e1 e2
  exact hc'
theorem BytesAt.take {w : World} {rb : Nat} {A : Option Addr} {bs : List UInt8} (m : Nat) (h : BytesAt w rb A bs) : BytesAt w rb A (bs.take m) := by
  intro i b hb
  rw [List.getElem?_take] at hb
  split at hb
  · exact h i b hb
  · cases hb
theorem BytesAt.drop {w : World} {rb g o : Nat} {bs : List UInt8} (m : Nat) (h : BytesAt w rb (some ⟨g, o, none⟩) bs) : BytesAt w rb (some ⟨g, o + m, none⟩) (bs.drop m) := by
  intro i b hb
  rw [List.getElem?_drop] at hb
  obtain ⟨g', o', e, hne, hc⟩ := h (m + i) b hb
  injection e with e
  injection e with e1 e2
  subst e1 e2
  exact ⟨g, o + m, rfl, hne, by rw [show o + m + i = o + (m + i) by omega]; exact hc⟩

theorem first_nil (w : World) (rb : Nat) (h : RdAt w rb []) : Calls Tryd.prog 47 #[.pointer (some ⟨rb, 0, none⟩)] w (Dead rb w) := by
  obtain ⟨A, _, hc, hf, _, _, _⟩ := h.open
  simp only [List.length_nil] at hc
  go_enter Tryd.func47, Tryd.ntmps47
  go_wp2_with fail
  exact ⟨rfl, rfl, World.grownBy.refl _ _⟩
theorem first_cons (w : World) (rb : Nat) (b : UInt8) (bs : List UInt8) (h : RdAt w rb (b :: bs)) :
    Calls Tryd.prog 47 #[.pointer (some ⟨rb, 0, none⟩)] w fun e w' => e = .returned (.int .u8 (b.toNat : Int)) ∧ w' = w := by
  obtain ⟨A, _, hc, hf, hb, hl, _⟩ := h.open
  obtain ⟨g, o, rfl, hne, hlt, hr⟩ := hb.row (by simp)
  have c0 := hr 0 b rfl
  simp only [Nat.add_zero] at c0
  have hlen : (((b :: bs).length : Int) == 0) = false := by simp; omega
  have hpos : (0 : Nat) < (b :: bs).length := by simp
  generalize (b :: bs).length = m at hc hlen hpos
  go_enter Tryd.func47, Tryd.ntmps47
  go_wp2_with fail
  go_ret
  exact ⟨rfl, rfl⟩

def TookBytes (rb : Nat) (bs : List UInt8) (v : Value) (w : World) : Prop := ∃ A, (A = none ∧ bs = [] ∨ ∃ g o, A = some ⟨g, o, none⟩ ∧ g < rb) ∧ v = .slice A bs.length bs.length ∧ BytesAt w rb A bs

set_option maxHeartbeats 1000000 in
theorem take_bad (n : Int) (w : World) (rb : Nat) (bs : List UInt8) (h : RdAt w rb bs) (hn : n < 0 ∨ (bs.length : Int) < n) : Calls Tryd.prog 59 #[.pointer (some ⟨rb, 0, none⟩), .int .i64 n] w (Dead rb w) := by
  obtain ⟨A, _, hc, hf, _, _, _⟩ := h.open
  generalize bs.length = m at hc hn
  by_cases h1 : n < 0
  · have b1 : decide (n < 0) = true := decide_eq_true h1
    go_enter Tryd.func59, Tryd.ntmps59
    go_wp2_with fail
    exact ⟨rfl, rfl, World.grownBy.refl _ _⟩
  · have b1 : decide (n < 0) = false := decide_eq_false h1
    have b2 : decide ((m : Int) < n) = true := decide_eq_true (by omega)
    go_enter Tryd.func59, Tryd.ntmps59
    go_wp2_with fail
    exact ⟨rfl, rfl, World.grownBy.refl _ _⟩

set_option maxRecDepth 100000 in
set_option maxHeartbeats 2000000 in
theorem take_some (k m rb g o : Nat) (w : World) (hk : k ≤ m) (hm : m ≤ 140737488351232) (hc : w.cell? ⟨rb, 0, none⟩ = some (.slice (some ⟨g, o, none⟩) m m)) (hf : w.frozen? ⟨rb, 0, none⟩ = false) :
    Calls Tryd.prog 59 #[.pointer (some ⟨rb, 0, none⟩), .int .i64 (k : Int)] w fun e w' => ∃ o', e = .returned (.slice (some ⟨g, o, none⟩) k k) ∧
      (k < m → o' = o + k) ∧ w' = (w.setCell ⟨rb, 0, none⟩ (.slice (some ⟨g, o', none⟩) (m - k) (m - k))).drew := by
  have b1 : decide ((k : Int) < 0) = false := decide_eq_false (by omega)
  have b2 : decide ((m : Int) < (k : Int)) = false := decide_eq_false (by omega)
  have hk0 : (0 : Int) ≤ (k : Int) := Int.natCast_nonneg _
  have hk1 : (k : Int) ≤ (m : Int) := by omega
  have hm0 : (0 : Int) ≤ (m : Int) := Int.natCast_nonneg _
  have hmm : (m : Int) ≤ (m : Int) := Int.le_refl _
  by_cases hkm : k = m
  · subst hkm
    go_enter Tryd.func59, Tryd.ntmps59
    go_wp2_with fail
    refine still_tail 19 (by kernel_rfl) (by kernel_rfl) ?_
    simp only [List.take_succ_cons, List.take_zero, List.drop_succ_cons, List.drop_zero]
    repeat still_step
    refine wpStill_nil ?_
    go_wp2_with fail
    go_ret
    exact ⟨o, rfl, fun h => absurd h (by omega), by rw [Nat.sub_self]⟩
  · have hlt : k < m := by omega
    have hne : ¬ m = k := by omega
    go_enter Tryd.func59, Tryd.ntmps59
    go_wp2_with fail
    refine still_tail 19 (by kernel_rfl) (by kernel_rfl) ?_
    simp only [List.take_succ_cons, List.take_zero, List.drop_succ_cons, List.drop_zero]
    repeat still_step
    refine wpStill_nil ?_
    go_wp2_with fail
    go_ret
    exact ⟨o + k, rfl, fun h => rfl, rfl⟩

set_option maxRecDepth 100000 in
set_option maxHeartbeats 2000000 in
theorem take_nil (rb : Nat) (w : World) (hc : w.cell? ⟨rb, 0, none⟩ = some (.slice none 0 0)) (hf : w.frozen? ⟨rb, 0, none⟩ = false) :
    Calls Tryd.prog 59 #[.pointer (some ⟨rb, 0, none⟩), .int .i64 0] w fun e w' => e = .returned (.slice none 0 0) ∧ w' = (w.setCell ⟨rb, 0, none⟩ (.slice none 0 0)).drew := by
  have b1 : decide ((0 : Int) < 0) = false := by decide
  go_enter Tryd.func59, Tryd.ntmps59
  go_wp2_with fail
  refine still_tail 19 (by kernel_rfl) (by kernel_rfl) ?_
  simp only [List.take_succ_cons, List.take_zero, List.drop_succ_cons, List.drop_zero]
  repeat still_step
  refine wpStill_nil ?_
  go_wp2_with fail
  go_ret
  exact ⟨rfl, rfl⟩

theorem grownSet {w : World} {rb : Nat} (v : Value) : w.grownBy ((w.setCell ⟨rb, 0, none⟩ v).drew) (some rb) :=
  ⟨rfl, rfl, rfl, by simp [World.setCell], fun k hk hne => Below.heap_setCell _ _ _ _ (fun e => hne (by rw [e]))⟩

theorem take_any (k : Nat) (w : World) (rb : Nat) (bs : List UInt8) (h : RdAt w rb bs) (hk : k ≤ bs.length) :
    Calls Tryd.prog 59 #[.pointer (some ⟨rb, 0, none⟩), .int .i64 (k : Int)] w (Took rb (bs.drop k) (TookBytes rb (bs.take k)) w) := by
  obtain ⟨A, hA, hc, hf, hb, hl, hh⟩ := h.open
  rcases hA with ⟨rfl, rfl⟩ | ⟨g, o, rfl, hne⟩
  · simp only [List.length_nil] at hk hc
    obtain rfl : k = 0 := by omega
    refine (take_nil rb w hc hf).mono ?_
    rintro e w' ⟨rfl, rfl⟩
    refine ⟨_, rfl, ⟨none, .inl ⟨rfl, rfl⟩, rfl, BytesAt.nil _ _ _⟩, ⟨none, .inl ⟨rfl, rfl⟩, one_setCell hh, BytesAt.nil _ _ _, by simp⟩, grownSet _⟩
  · refine (take_some k bs.length rb g o w hk (by omega) hc hf).mono ?_
    rintro e w' ⟨o', rfl, hA, rfl⟩
    have hgr := grownSet (w := w) (rb := rb) (.slice (some ⟨g, o', none⟩) (bs.length - k) (bs.length - k))
    have hb' := hb.grown hgr
    refine ⟨_, rfl, ⟨some ⟨g, o, none⟩, .inr ⟨g, o, rfl, hne⟩, by rw [List.length_take, Nat.min_eq_left hk], hb'.take k⟩, ?_, hgr⟩
    by_cases hlt : k < bs.length
    · obtain rfl := hA hlt
      refine ⟨some ⟨g, o + k, none⟩, .inr ⟨g, o + k, rfl, hne⟩, ?_, hb'.drop k, by simp; omega⟩
      rw [List.length_drop]
      exact one_setCell hh
    · have e : bs.drop k = [] := List.drop_eq_nil_of_le (by omega)
      rw [e]
      refine ⟨some ⟨g, o', none⟩, .inr ⟨g, o', rfl, hne⟩, ?_, BytesAt.nil _ _ _, by simp⟩
      have := one_setCell (u := .slice (some ⟨g, o', none⟩) (bs.length - k) (bs.length - k)) hh
      rw [show bs.length - k = 0 by omega] at this ⊢
      exact this
end Go.Proofs.YtclpbjdnollfcaaDoor
