/- Plain mathematics of lists of intervals: no program. -/
namespace CalI
set_option linter.unusedSimpArgs false
set_option linter.unusedVariables false

abbrev Iv := Int × Int
def pts (l : List Iv) (n : Int) : Prop := ∃ i ∈ l, i.1 ≤ n ∧ n ≤ i.2
/-- separated, valid -/
def Sep : List Iv → Prop
  | [] => True
  | [x] => x.1 ≤ x.2
  | x :: y :: r => x.1 ≤ x.2 ∧ x.2 + 1 < y.1 ∧ Sep (y :: r)

theorem Sep.tail {x : Iv} {r : List Iv} (h : Sep (x :: r)) : Sep r := by
  cases r with
  | nil => trivial
  | cons y r => exact h.2.2
theorem Sep.head {x : Iv} {r : List Iv} (h : Sep (x :: r)) : x.1 ≤ x.2 := by
  cases r with
  | nil => exact h
  | cons y r => exact h.1
theorem Sep.lt {x : Iv} {r : List Iv} (h : Sep (x :: r)) : ∀ y ∈ r, x.2 + 1 < y.1 := by
  induction r generalizing x with
  | nil => intro y hy; cases hy
  | cons z r ih =>
    intro y hy
    rcases List.mem_cons.1 hy with rfl | hy
    · exact h.2.1
    · have h1 := ih h.2.2 y hy
      have h2 := h.2.2.head
      have h3 := h.2.1
      omega
theorem sep_cons {x : Iv} {r : List Iv} (h : x.1 ≤ x.2) (hr : Sep r) (hl : ∀ y ∈ r, x.2 + 1 < y.1) : Sep (x :: r) := by
  cases r with
  | nil => exact h
  | cons y r => exact ⟨h, hl y List.mem_cons_self, hr⟩

/-- the points of a list determine a separated list -/
theorem sep_unique : ∀ (a b : List Iv), Sep a → Sep b → (∀ n, pts a n ↔ pts b n) → a = b
  | [], [], _, _, _ => rfl
  | [], y :: s, _, hb, h => by
    have hy := hb.head
    obtain ⟨i, hi, _⟩ := (h y.1).2 ⟨y, List.mem_cons_self, Int.le_refl _, hy⟩
    cases hi
  | x :: r, [], ha, _, h => by
    have hx := ha.head
    obtain ⟨i, hi, _⟩ := (h x.1).1 ⟨x, List.mem_cons_self, Int.le_refl _, hx⟩
    cases hi
  | x :: r, y :: s, ha, hb, h => by
    have hx := ha.head
    have hy := hb.head
    have hlx := ha.lt
    have hly := hb.lt
    have e1 : x.1 = y.1 := by
      obtain ⟨i, hi, i1, i2⟩ := (h x.1).1 ⟨x, List.mem_cons_self, Int.le_refl _, hx⟩
      obtain ⟨j, hj, j1, j2⟩ := (h y.1).2 ⟨y, List.mem_cons_self, Int.le_refl _, hy⟩
      have hi1 : y.1 ≤ i.1 := by
        rcases List.mem_cons.1 hi with rfl | hi
        · exact Int.le_refl _
        · have := hly i hi; omega
      have hj1 : x.1 ≤ j.1 := by
        rcases List.mem_cons.1 hj with rfl | hj
        · exact Int.le_refl _
        · have := hlx j hj; omega
      omega
    have gap : ∀ (p q : Iv) (t u : List Iv), Sep (p :: t) → Sep (q :: u) → p.1 = q.1 → (∀ n, pts (p :: t) n ↔ pts (q :: u) n) → q.2 ≤ p.2 := by
      intro p q t u hp hq epq hh
      by_cases hc : q.2 ≤ p.2
      · exact hc
      · exfalso
        have hpp := hp.head
        obtain ⟨i, hi, i1, i2⟩ := (hh (p.2 + 1)).2 ⟨q, List.mem_cons_self, by omega, by omega⟩
        rcases List.mem_cons.1 hi with rfl | hi
        · omega
        · have := hp.lt i hi; omega
    have e2 : x.2 = y.2 := by
      have g1 := gap x y r s ha hb e1 h
      have g2 := gap y x s r hb ha e1.symm (fun n => (h n).symm)
      omega
    have exy : x = y := Prod.ext e1 e2
    subst exy
    have htail : r = s := sep_unique r s ha.tail hb.tail (fun n => by
      constructor
      · rintro ⟨i, hi, i1, i2⟩
        obtain ⟨j, hj, j1, j2⟩ := (h n).1 ⟨i, List.mem_cons_of_mem _ hi, i1, i2⟩
        rcases List.mem_cons.1 hj with rfl | hj
        · have := hlx i hi; omega
        · exact ⟨j, hj, j1, j2⟩
      · rintro ⟨i, hi, i1, i2⟩
        obtain ⟨j, hj, j1, j2⟩ := (h n).2 ⟨i, List.mem_cons_of_mem _ hi, i1, i2⟩
        rcases List.mem_cons.1 hj with rfl | hj
        · have := hly i hi; omega
        · exact ⟨j, hj, j1, j2⟩)
    rw [htail]

/-- one interval more, none of whose predecessors begins later (the program's step) -/
def joinS (l : List Iv) (i : Iv) : List Iv :=
  match l.getLast? with
  | none => [i]
  | some z => if z.2 + 1 < i.1 then l ++ [i] else l.dropLast ++ [(z.1, if z.2 < i.2 then i.2 else z.2)]

theorem sep_append_single {l : List Iv} {x : Iv} (hl : Sep l) (hx : x.1 ≤ x.2) (h : ∀ z, l.getLast? = some z → z.2 + 1 < x.1) : Sep (l ++ [x]) := by
  induction l with
  | nil => exact hx
  | cons a r ih =>
    cases r with
    | nil => exact ⟨hl, h a rfl, hx⟩
    | cons b r =>
      exact ⟨hl.1, hl.2.1, ih hl.2.2 (fun z hz => h z (by rw [List.getLast?_cons_cons]; exact hz))⟩

theorem pts_append (a b : List Iv) (n : Int) : pts (a ++ b) n ↔ pts a n ∨ pts b n := by
  simp only [pts, List.mem_append]
  constructor
  · rintro ⟨i, hi | hi, h⟩
    · exact .inl ⟨i, hi, h⟩
    · exact .inr ⟨i, hi, h⟩
  · rintro (⟨i, hi, h⟩ | ⟨i, hi, h⟩)
    · exact ⟨i, .inl hi, h⟩
    · exact ⟨i, .inr hi, h⟩
theorem pts_single (x : Iv) (n : Int) : pts [x] n ↔ x.1 ≤ n ∧ n ≤ x.2 := by simp [pts]

/-- what the step keeps: separated, the points, and that nothing begins later than the last one -/
theorem joinS_spec {l : List Iv} {i : Iv} (hl : Sep l) (hi : i.1 ≤ i.2) (hle : ∀ z, l.getLast? = some z → z.1 ≤ i.1) :
    Sep (joinS l i) ∧ (∀ n, pts (joinS l i) n ↔ pts l n ∨ (i.1 ≤ n ∧ n ≤ i.2)) ∧ (∀ z, (joinS l i).getLast? = some z → z.1 ≤ i.1) := by
  unfold joinS
  cases hg : l.getLast? with
  | none =>
    have : l = [] := List.getLast?_eq_none_iff.1 hg
    subst this
    refine ⟨hi, fun n => ?_, fun z hz => ?_⟩
    · simp [pts]
    · simp at hz; subst hz; exact Int.le_refl _
  | some z =>
    have hz := hle z hg
    obtain ⟨r, rfl⟩ : ∃ r, l = r ++ [z] := List.getLast?_eq_some_iff.1 hg
    simp only
    split
    · rename_i hlt
      refine ⟨sep_append_single hl hi (fun y hy => by rw [hg] at hy; cases hy; exact hlt), fun n => ?_, fun y hy => ?_⟩
      · rw [pts_append, pts_single]
      · simp at hy; subst hy; exact Int.le_refl _
    · rename_i hlt
      have hzz : z.1 ≤ z.2 := by
        clear hg hle
        induction r with
        | nil => exact hl
        | cons a r ih => exact ih hl.tail
      have hr : Sep r := by
        clear hg hle
        induction r with
        | nil => trivial
        | cons a r ih =>
          cases r with
          | nil => exact hl.1
          | cons b r => exact ⟨hl.1, hl.2.1, ih hl.2.2⟩
      have hlast : ∀ y, r.getLast? = some y → y.2 + 1 < z.1 := by
        clear hg hle hr
        induction r with
        | nil => intro y hy; simp at hy
        | cons a r ih =>
          intro y hy
          cases r with
          | nil => simp at hy; subst hy; exact hl.2.1
          | cons b r => exact ih hl.2.2 y (by rw [List.getLast?_cons_cons] at hy; exact hy)
      rw [List.dropLast_concat]
      refine ⟨sep_append_single hr (by simp only; split <;> omega) hlast, fun n => ?_, fun y hy => ?_⟩
      · rw [pts_append, pts_append, pts_single, pts_single]
        simp only
        constructor
        · rintro (h | ⟨h1, h2⟩)
          · exact .inl (.inl h)
          · by_cases hn : n ≤ z.2
            · exact .inl (.inr ⟨h1, hn⟩)
            · refine .inr ⟨by omega, ?_⟩
              split at h2 <;> omega
        · rintro ((h | ⟨h1, h2⟩) | ⟨h1, h2⟩)
          · exact .inl h
          · exact .inr ⟨h1, by split <;> omega⟩
          · exact .inr ⟨by omega, by split <;> omega⟩
      · simp at hy; subst hy; exact hz

def Okay (l : List Iv) : Prop := ∀ i ∈ l, i.1 ≤ i.2
def IsUnion (l u : List Iv) : Prop := Sep u ∧ ∀ n, pts u n ↔ pts l n
theorem IsUnion.unique {l u v : List Iv} (hu : IsUnion l u) (hv : IsUnion l v) : u = v :=
  sep_unique u v hu.1 hv.1 (fun n => (hu.2 n).trans (hv.2 n).symm)

theorem fold_union (l : List Iv) : ∀ (a d : List Iv), Okay l → l.Pairwise (fun x y => x.1 ≤ y.1) → IsUnion d a → (∀ z, a.getLast? = some z → ∀ i ∈ l, z.1 ≤ i.1) → IsUnion (d ++ l) (l.foldl joinS a) := by
  induction l with
  | nil => intro a d _ _ h _; simpa using h
  | cons i l ih =>
    intro a d hok hs hu hle
    have hj := joinS_spec hu.1 (hok i List.mem_cons_self) (fun z hz => hle z hz i List.mem_cons_self)
    have h2 := ih (joinS a i) (d ++ [i]) (fun x hx => hok x (List.mem_cons_of_mem _ hx)) (List.pairwise_cons.1 hs).2
      ⟨hj.1, fun n => by rw [hj.2.1, pts_append, pts_single, hu.2]⟩
      (fun z hz x hx => Int.le_trans (hj.2.2 z hz) ((List.pairwise_cons.1 hs).1 x hx))
    simpa using h2

theorem pts_perm {a b : List Iv} (h : a.Perm b) (n : Int) : pts a n ↔ pts b n := by
  simp only [pts]
  exact ⟨fun ⟨i, hi, x⟩ => ⟨i, h.mem_iff.1 hi, x⟩, fun ⟨i, hi, x⟩ => ⟨i, h.mem_iff.2 hi, x⟩⟩

theorem union_of_sorted {l s : List Iv} (hp : s.Perm l) (hok : Okay l) (hs : s.Pairwise (fun x y => x.1 ≤ y.1)) : IsUnion l (s.foldl joinS []) := by
  have h := fold_union s [] [] (fun i hi => hok i (hp.mem_iff.1 hi)) hs ⟨trivial, fun n => Iff.rfl⟩ (fun z hz => by simp at hz)
  exact ⟨h.1, fun n => (h.2 n).trans (by simpa using pts_perm hp n)⟩


def Bd (l : List Iv) : Prop := ∀ x ∈ l, 0 ≤ x.1 ∧ x.1 ≤ 1048576 ∧ 0 ≤ x.2 ∧ x.2 ≤ 1048576
theorem joinS_bd {l : List Iv} {i : Iv} (h : Bd l) (hi : 0 ≤ i.1 ∧ i.1 ≤ 1048576 ∧ 0 ≤ i.2 ∧ i.2 ≤ 1048576) : Bd (joinS l i) := by
  unfold joinS
  cases hg : l.getLast? with
  | none => intro x hx; simp at hx; subst hx; exact hi
  | some z =>
    obtain ⟨r, rfl⟩ : ∃ r, l = r ++ [z] := List.getLast?_eq_some_iff.1 hg
    have hz := h z (by simp)
    simp only
    split
    · intro x hx
      rcases List.mem_append.1 hx with hx | hx
      · exact h x hx
      · simp at hx; subst hx; exact hi
    · intro x hx
      rw [List.dropLast_concat] at hx
      rcases List.mem_append.1 hx with hx | hx
      · exact h x (by simp [hx])
      · simp at hx; subst hx
        refine ⟨hz.1, hz.2.1, ?_, ?_⟩
        · simp only; split
          · exact hi.2.2.1
          · exact hz.2.2.1
        · simp only; split
          · exact hi.2.2.2
          · exact hz.2.2.2
theorem joinS_len (l : List Iv) (i : Iv) : (joinS l i).length ≤ l.length + 1 := by
  unfold joinS
  cases hg : l.getLast? with
  | none => simp
  | some z =>
    obtain ⟨r, rfl⟩ : ∃ r, l = r ++ [z] := List.getLast?_eq_some_iff.1 hg
    simp only
    split <;> simp
theorem fold_bd (s : List Iv) : ∀ a, Bd a → Bd s → Bd (s.foldl joinS a) := by
  induction s with
  | nil => intro a h _; exact h
  | cons i s ih => intro a h hs; exact ih _ (joinS_bd h (hs i (by simp))) (fun x hx => hs x (by simp [hx]))
theorem fold_len (s : List Iv) : ∀ a, (s.foldl joinS a).length ≤ a.length + s.length := by
  induction s with
  | nil => intro a; simp
  | cons i s ih => intro a; have := ih (joinS a i); have := joinS_len a i; simp; omega
theorem Bd.perm {a b : List Iv} (h : Bd b) (hp : a.Perm b) : Bd a := fun x hx => h x (hp.mem_iff.1 hx)
theorem Bd.take {a : List Iv} (h : Bd a) (k : Nat) : Bd (a.take k) := fun x hx => h x (List.mem_of_mem_take hx)

end CalI
