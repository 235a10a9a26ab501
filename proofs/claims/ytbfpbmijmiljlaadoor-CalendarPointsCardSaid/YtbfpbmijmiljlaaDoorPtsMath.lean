/- Plain mathematics for the law CalendarPoints: points of unions, of lists that are turned, and the days that the law asks for. -/
import Derived.Test.YtbfpbmijmiljlaaDoorCalWalkK
namespace Go.Proofs.YtbfpbmijmiljlaaDoor
set_option linter.unusedSimpArgs false
set_option linter.unusedVariables false
open Go.RowKit

theorem inB_iff (l : List CalI.Iv) (n : Int) : inB l n = true ↔ CalI.pts l n := by
  simp only [inB, List.any_eq_true, Bool.and_eq_true, decide_eq_true_eq, CalI.pts]
theorem inB_union {l u : List CalI.Iv} (h : CalI.IsUnion l u) (n : Int) : inB u n = inB l n := by
  have := h.2 n
  rw [← inB_iff, ← inB_iff] at this
  cases h1 : inB u n <;> cases h2 : inB l n <;> simp_all

theorem sep_le {u : List CalI.Iv} (h : CalI.Sep u) : ∀ x ∈ u, x.1 ≤ x.2 := by
  induction u with
  | nil => intro x hx; cases hx
  | cons a r ih =>
    intro x hx
    rcases List.mem_cons.1 hx with rfl | hx
    · exact h.head
    · exact ih h.tail x hx
theorem sep_next {u : List CalI.Iv} (h : CalI.Sep u) (k : Nat) (x y : CalI.Iv) (hx : u[k]? = some x) (hy : u[k + 1]? = some y) : x.2 + 1 < y.1 := by
  induction u generalizing k with
  | nil => simp at hx
  | cons a r ih =>
    cases k with
    | zero =>
      simp at hx
      subst hx
      exact h.lt y (List.mem_of_getElem? (by simpa using hy))
    | succ k => exact ih h.tail k (by simpa using hx) (by simpa using hy)

theorem union_allOk {l u : List CalI.Iv} (hok : allOk l = true) (h : CalI.IsUnion l u) : allOk u = true := by
  simp only [allOk, List.all_eq_true]
  intro x hx
  have hle := sep_le h.1 x hx
  obtain ⟨i, hi, i1, i2⟩ := (h.2 x.1).1 ⟨x, hx, Int.le_refl _, hle⟩
  obtain ⟨j, hj, j1, j2⟩ := (h.2 x.2).1 ⟨x, hx, hle, Int.le_refl _⟩
  have hbi := (allOk_bd hok).1 i hi
  have hbj := (allOk_bd hok).1 j hj
  rw [ivOk_iff]
  omega

/-- the list turned at i, and its element i once more -/
def turned (l : List CalI.Iv) (i : Nat) (x : CalI.Iv) : List CalI.Iv := l.drop i ++ l.take i ++ [x]
theorem turned_mem {l : List CalI.Iv} {i : Nat} {x : CalI.Iv} (h : l[i]? = some x) (y : CalI.Iv) : y ∈ turned l i x ↔ y ∈ l := by
  have e : y ∈ l ↔ y ∈ l.take i ∨ y ∈ l.drop i := by rw [← List.mem_append, List.take_append_drop]
  have hx := List.mem_of_getElem? h
  simp only [turned, List.mem_append, List.mem_singleton]
  constructor
  · rintro ((h | h) | h)
    · exact e.2 (.inr h)
    · exact e.2 (.inl h)
    · exact h ▸ hx
  · intro h
    rcases e.1 h with h | h
    · exact .inl (.inr h)
    · exact .inl (.inl h)
theorem turned_pts {l : List CalI.Iv} {i : Nat} {x : CalI.Iv} (h : l[i]? = some x) (n : Int) : CalI.pts (turned l i x) n ↔ CalI.pts l n := by
  simp only [CalI.pts, turned_mem h]
theorem turned_ok {l : List CalI.Iv} {i : Nat} {x : CalI.Iv} (h : l[i]? = some x) (hok : allOk l = true) : allOk (turned l i x) = true := by
  simp only [allOk, List.all_eq_true] at *
  exact fun y hy => hok y ((turned_mem h y).1 hy)
theorem turned_len {l : List CalI.Iv} {i : Nat} {x : CalI.Iv} (h : l[i]? = some x) : (turned l i x).length = l.length + 1 := by
  have := (List.getElem?_eq_some_iff.1 h).1
  simp [turned]
  omega
theorem turned_union {l u v : List CalI.Iv} {i : Nat} {x : CalI.Iv} (h : l[i]? = some x) (hu : CalI.IsUnion l u) (hv : CalI.IsUnion (turned l i x) v) : v = u :=
  CalI.sep_unique v u hv.1 hu.1 fun n => ((hv.2 n).trans (turned_pts h n)).trans (hu.2 n).symm
theorem union_again {l u v : List CalI.Iv} (hu : CalI.IsUnion l u) (hv : CalI.IsUnion u v) : v = u :=
  CalI.sep_unique v u hv.1 hu.1 fun n => hv.2 n
theorem union_empty {u : List CalI.Iv} (hu : CalI.IsUnion [] u) : u = [] :=
  CalI.sep_unique u [] hu.1 trivial fun n => hu.2 n
theorem flat_turned (l : List CalI.Iv) (i : Nat) (x : CalI.Iv) : flat (turned l i x) = (([] ++ flat (l.drop i)) ++ flat (l.take i)) ++ [.int .i64 x.1, .int .i64 x.2] := by
  simp [turned, flat]

/-- the days that the law asks for -/
def four (x : CalI.Iv) : List Int := [x.1, x.2, x.1 - 1, x.2 + 1]
def ints (l : List Int) : List Value := l.map (Value.int .i64)
def dsOf (n : Int) (l : List CalI.Iv) : List Int := n :: l.flatMap four
theorem dsOf_len (n : Int) (l : List CalI.Iv) : (dsOf n l).length = l.length * 4 + 1 := by
  simp only [dsOf, List.length_cons]
  induction l with
  | nil => rfl
  | cons a r ih => simp [four] at ih ⊢; omega
theorem dsOf_snoc (n : Int) (l : List CalI.Iv) (x : CalI.Iv) : ints (dsOf n (l ++ [x])) = ints (dsOf n l) ++ [.int .i64 x.1, .int .i64 x.2, .int .i64 (x.1 - 1), .int .i64 (x.2 + 1)] := by
  simp [ints, dsOf, four]
theorem fourOne (a b c d : Int) : ∀ u ∈ [Value.int .i64 a, .int .i64 b, .int .i64 c, .int .i64 d], u.oneCell' = true := by
  intro u hu
  simp at hu
  rcases hu with rfl | rfl | rfl | rfl <;> rfl
theorem union_pos {l u : List CalI.Iv} (h : CalI.IsUnion l u) (hok : allOk l = true) (hl : 0 < l.length) : 0 < u.length := by
  cases l with
  | nil => simp at hl
  | cons a r =>
    have ha := (allOk_bd hok).2 a List.mem_cons_self
    obtain ⟨i, hi, _⟩ := (h.2 a.1).2 ⟨a, List.mem_cons_self, Int.le_refl _, ha⟩
    exact List.length_pos_of_mem hi
theorem ds_cell {w : World} {B g n' c : Nat} {n : Int} {l : List CalI.Iv} (h : w.ownsRow B 3 1 (.slice (some ⟨g, 0, none⟩) n' c) n' (ints (dsOf n l))) (hn : n' = l.length * 4 + 1) :
    ∀ j d, (dsOf n l)[j]? = some d → w.cell? ⟨g, j, none⟩ = some (.int .i64 d) := by
  intro j d hj
  have hlt : j < (dsOf n l).length := (List.getElem?_eq_some_iff.1 hj).1
  rw [dsOf_len] at hlt
  rw [h.cellAt j (by omega)]
  simp [ints, hj]
end Go.Proofs.YtbfpbmijmiljlaaDoor
