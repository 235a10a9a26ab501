/- Plain mathematics of lists of intervals, the reference's way: no program. -/
import Derived.Test.YtbfpbmijmiljlaaDoorCalIv
namespace CalI
set_option linter.unusedSimpArgs false
set_option linter.unusedVariables false

/- the reference's way: one interval more, at its place -/
abbrev St := List Iv × Iv × Bool
def addStep (s : St) (x : Iv) : St :=
  if x.2 + 1 < s.2.1.1 then (s.1 ++ [x], s.2.1, s.2.2)
  else if s.2.1.2 + 1 < x.1 then ((if s.2.2 then s.1 else s.1 ++ [s.2.1]) ++ [x], s.2.1, true)
  else (s.1, (if x.1 < s.2.1.1 then x.1 else s.2.1.1, if s.2.1.2 < x.2 then x.2 else s.2.1.2), s.2.2)
def addFin (s : St) : List Iv := if s.2.2 then s.1 else s.1 ++ [s.2.1]
def addS (l : List Iv) (i : Iv) : List Iv := addFin (l.foldl addStep ([], i, false))

theorem sep_append {a b : List Iv} (ha : Sep a) (hb : Sep b) (h : ∀ z ∈ a, ∀ y ∈ b, z.2 + 1 < y.1) : Sep (a ++ b) := by
  induction a with
  | nil => exact hb
  | cons x r ih =>
    refine sep_cons ha.head (ih ha.tail (fun z hz => h z (List.mem_cons_of_mem _ hz))) ?_
    intro y hy
    rcases List.mem_append.1 hy with hy | hy
    · exact ha.lt y hy
    · exact h x List.mem_cons_self y hy
theorem sep_one {x : Iv} (h : x.1 ≤ x.2) : Sep [x] := h

theorem add_true (r : List Iv) : ∀ (out : List Iv) (j : Iv), (∀ y ∈ r, j.2 + 1 < y.1) → j.1 ≤ j.2 → Sep r → r.foldl addStep (out, j, true) = (out ++ r, j, true) := by
  induction r with
  | nil => intro out j _ _ _; simp
  | cons x r ih =>
    intro out j h hj hr
    have hx := h x List.mem_cons_self
    have hxx := hr.head
    have e : addStep (out, j, true) x = (out ++ [x], j, true) := by
      unfold addStep
      rw [if_neg (by simp only; omega), if_pos hx]
      rfl
    rw [List.foldl_cons, e, ih _ j (fun y hy => h y (List.mem_cons_of_mem _ hy)) hj hr.tail]
    simp

theorem add_false (r : List Iv) : ∀ (out : List Iv) (j : Iv), Sep out → j.1 ≤ j.2 → (∀ z ∈ out, z.2 + 1 < j.1) → (∀ z ∈ out, ∀ y ∈ r, z.2 + 1 < y.1) → Sep r →
    Sep (addFin (r.foldl addStep (out, j, false))) ∧ ∀ n, pts (addFin (r.foldl addStep (out, j, false))) n ↔ pts out n ∨ (j.1 ≤ n ∧ n ≤ j.2) ∨ pts r n := by
  induction r with
  | nil =>
    intro out j ho hj h1 _ _
    refine ⟨sep_append ho (sep_one hj) (fun z hz y hy => by simp at hy; subst hy; exact h1 z hz), fun n => ?_⟩
    show pts (out ++ [j]) n ↔ _
    rw [pts_append, pts_single]
    simp [pts]
  | cons x r ih =>
    intro out j ho hj h1 h2 hr
    have hxx := hr.head
    have hcons : ∀ n, pts (x :: r) n ↔ (x.1 ≤ n ∧ n ≤ x.2) ∨ pts r n := fun n => by
      rw [show x :: r = [x] ++ r from rfl, pts_append, pts_single]
    rw [List.foldl_cons]
    by_cases c1 : x.2 + 1 < j.1
    · have e : addStep (out, j, false) x = (out ++ [x], j, false) := by unfold addStep; rw [if_pos c1]
      rw [e]
      obtain ⟨s1, s2⟩ := ih (out ++ [x]) j (sep_append ho (sep_one hxx) (fun z hz y hy => by simp at hy; subst hy; exact h2 z hz _ List.mem_cons_self)) hj
        (fun z hz => by
          rcases List.mem_append.1 hz with hz | hz
          · exact h1 z hz
          · simp at hz; subst hz; exact c1)
        (fun z hz y hy => by
          rcases List.mem_append.1 hz with hz | hz
          · exact h2 z hz y (List.mem_cons_of_mem _ hy)
          · simp at hz; subst hz; exact hr.lt y hy) hr.tail
      refine ⟨s1, fun n => ?_⟩
      rw [s2 n, pts_append, pts_single, hcons]
      constructor
      · rintro ((h | h) | h | h)
        · exact .inl h
        · exact .inr (.inr (.inl h))
        · exact .inr (.inl h)
        · exact .inr (.inr (.inr h))
      · rintro (h | h | h | h)
        · exact .inl (.inl h)
        · exact .inr (.inl h)
        · exact .inl (.inr h)
        · exact .inr (.inr h)
    · by_cases c2 : j.2 + 1 < x.1
      · have e : addStep (out, j, false) x = (out ++ [j] ++ [x], j, true) := by unfold addStep; rw [if_neg c1, if_pos c2]; rfl
        rw [e, add_true r _ j (fun y hy => by have := hr.lt y hy; omega) hj hr.tail]
        show Sep (out ++ [j] ++ [x] ++ r) ∧ ∀ n, pts (out ++ [j] ++ [x] ++ r) n ↔ _
        have e2 : out ++ [j] ++ [x] ++ r = out ++ (j :: x :: r) := by simp
        rw [e2]
        refine ⟨sep_append ho (sep_cons hj hr (fun y hy => by
          rcases List.mem_cons.1 hy with rfl | hy
          · exact c2
          · have := hr.lt y hy; omega)) (fun z hz y hy => by
          rcases List.mem_cons.1 hy with rfl | hy
          · exact h1 z hz
          · exact h2 z hz y hy), fun n => ?_⟩
        rw [pts_append, show j :: x :: r = [j] ++ (x :: r) from rfl, pts_append, pts_single]
      · have e : addStep (out, j, false) x = (out, (if x.1 < j.1 then x.1 else j.1, if j.2 < x.2 then x.2 else j.2), false) := by unfold addStep; rw [if_neg c1, if_neg c2]
        rw [e]
        obtain ⟨s1, s2⟩ := ih out (if x.1 < j.1 then x.1 else j.1, if j.2 < x.2 then x.2 else j.2) ho (by simp only; split <;> split <;> omega)
          (fun z hz => by
            have := h1 z hz
            have := h2 z hz x List.mem_cons_self
            simp only; split <;> omega)
          (fun z hz y hy => h2 z hz y (List.mem_cons_of_mem _ hy)) hr.tail
        refine ⟨s1, fun n => ?_⟩
        rw [s2 n, hcons]
        have key : ((if x.1 < j.1 then x.1 else j.1) ≤ n ∧ n ≤ (if j.2 < x.2 then x.2 else j.2)) ↔ (j.1 ≤ n ∧ n ≤ j.2) ∨ (x.1 ≤ n ∧ n ≤ x.2) := by
          split <;> split <;> omega
        rw [key]
        constructor
        · rintro (h | (h | h) | h)
          · exact .inl h
          · exact .inr (.inl h)
          · exact .inr (.inr (.inl h))
          · exact .inr (.inr (.inr h))
        · rintro (h | h | h | h)
          · exact .inl h
          · exact .inr (.inl (.inl h))
          · exact .inr (.inl (.inr h))
          · exact .inr (.inr h)

theorem addS_spec {l : List Iv} {i : Iv} (hl : Sep l) (hi : i.1 ≤ i.2) : Sep (addS l i) ∧ ∀ n, pts (addS l i) n ↔ pts l n ∨ (i.1 ≤ n ∧ n ≤ i.2) := by
  obtain ⟨h1, h2⟩ := add_false l [] i trivial hi (fun z hz => by cases hz) (fun z hz => by cases hz) hl
  refine ⟨h1, fun n => ?_⟩
  have := h2 n
  rw [show addS l i = addFin (l.foldl addStep ([], i, false)) from rfl, this]
  simp [pts, or_comm]
theorem addU (l : List Iv) : ∀ (a d : List Iv), Okay l → IsUnion d a → IsUnion (d ++ l) (l.foldl addS a) := by
  induction l with
  | nil => intro a d _ h; simpa using h
  | cons i l ih =>
    intro a d hok hu
    have hj := addS_spec hu.1 (hok i List.mem_cons_self)
    have := ih (addS a i) (d ++ [i]) (fun x hx => hok x (List.mem_cons_of_mem _ hx)) ⟨hj.1, fun n => by rw [hj.2, pts_append, pts_single, hu.2]⟩
    simpa using this
theorem refUnion_spec (l : List Iv) (hok : Okay l) : IsUnion l (l.foldl addS []) := by
  simpa using addU l [] [] hok ⟨trivial, fun n => Iff.rfl⟩

theorem addStep_bd {s : St} {x : Iv} (h : Bd s.1) (hj : Bd [s.2.1]) (hx : Bd [x]) : Bd (addStep s x).1 ∧ Bd [(addStep s x).2.1] := by
  have h1 := hj s.2.1 (by simp)
  have h2 := hx x (by simp)
  unfold addStep
  split
  · refine ⟨fun z hz => ?_, hj⟩
    rcases List.mem_append.1 hz with hz | hz
    · exact h z hz
    · exact hx z hz
  · split
    · refine ⟨fun z hz => ?_, hj⟩
      rcases List.mem_append.1 hz with hz | hz
      · split at hz
        · exact h z hz
        · rcases List.mem_append.1 hz with hz | hz
          · exact h z hz
          · exact hj z hz
      · exact hx z hz
    · refine ⟨h, fun z hz => ?_⟩
      simp only [List.mem_singleton] at hz
      subst hz
      simp only
      split <;> split <;> omega
theorem addStep_len (s : St) (x : Iv) : (addStep s x).1.length ≤ s.1.length + 2 := by
  unfold addStep
  split
  · simp
  · split
    · simp; split <;> simp
    · simp

end CalI
