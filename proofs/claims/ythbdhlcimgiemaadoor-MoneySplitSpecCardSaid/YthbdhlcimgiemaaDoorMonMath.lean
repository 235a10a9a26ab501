/- Plain mathematics of a division by largest remainders. -/
import Derived.Test.YthbdhlcimgiemaaDoorMonList
import Derived.Test.YthbdhlcimgiemaaDoorMonCmp
namespace Go.Proofs.YthbdhlcimgiemaaDoor
set_option linter.unusedSimpArgs false
set_option linter.unusedVariables false

/-- the order in which cents are given away -/
def ltR (x y : Rm) : Bool := decide (y.2 < x.2 ∨ x.2 = y.2 ∧ x.1 < y.1)
theorem ltR_iff (x y : Rm) : ltR x y = true ↔ y.2 < x.2 ∨ x.2 = y.2 ∧ x.1 < y.1 := by unfold ltR; simp
theorem cmpR_lt (x y : Rm) : decide (cmpR x y < 0) = ltR x y := by
  rw [Bool.eq_iff_iff, ltR_iff]
  unfold cmpR
  simp only [orV, cmpI, decide_eq_true_eq]
  by_cases h1 : y.2 < x.2
  · simp [h1]
  · by_cases h2 : x.2 < y.2
    · simp [h1, h2]; omega
    · have e : x.2 = y.2 := by omega
      by_cases h3 : x.1 < y.1
      · simp [h1, h2, h3, e]
      · by_cases h4 : y.1 < x.1
        · simp [h1, h2, h3, h4, e]
        · simp [h1, h2, h3, h4, e]
theorem ltR_irr (x : Rm) : ltR x x = false := by rw [Bool.eq_false_iff]; intro h; rw [ltR_iff] at h; omega
theorem ltR_asym {x y : Rm} (h : ltR x y = true) : ltR y x = false := by rw [Bool.eq_false_iff]; intro h2; rw [ltR_iff] at *; omega

/-- how many come before -/
def rank (l : List Rm) (x : Rm) : Nat := l.countP fun y => ltR y x
def Before (s : List Rm) : Prop := s.Pairwise fun x y => ltR x y = true
theorem mem_take_iff {x : Rm} : ∀ {s : List Rm} {c : Nat}, Before s → x ∈ s → (x ∈ s.take c ↔ rank s x < c)
  | [], _, _, h => by cases h
  | y :: t, 0, _, _ => by simp
  | y :: t, c + 1, hs, hx => by
    have hs' := List.pairwise_cons.1 hs
    rw [List.take_succ_cons]
    unfold rank
    rw [List.countP_cons]
    by_cases e : x = y
    · subst e
      have h0 : List.countP (fun z => ltR z x) t = 0 := by
        rw [List.countP_eq_zero]
        intro z hz
        simp [ltR_asym (hs'.1 z hz)]
      rw [h0, ltR_irr]
      simp
    · have hxt : x ∈ t := by
        rcases List.mem_cons.1 hx with h | h
        · exact absurd h e
        · exact h
      have ih := mem_take_iff (s := t) (c := c) hs'.2 hxt
      rw [hs'.1 x hxt]
      simp only [List.mem_cons, if_true]
      unfold rank at ih
      constructor
      · rintro (h | h)
        · exact absurd h e
        · have := ih.1 h; omega
      · intro h
        exact .inr (ih.2 (by omega))
theorem rank_perm {s l : List Rm} (h : s.Perm l) (x : Rm) : rank s x = rank l x := h.countP_eq _

/-- remainders with their indices -/
def rmsFrom (i : Nat) : List Int → List Rm
  | [] => []
  | r :: t => ((i : Int), r) :: rmsFrom (i + 1) t
theorem rmsFrom_length : ∀ (l : List Int) (i : Nat), (rmsFrom i l).length = l.length
  | [], _ => rfl
  | r :: t, i => by simp [rmsFrom, rmsFrom_length t]
theorem rmsFrom_get : ∀ (l : List Int) (i k : Nat), (rmsFrom i l)[k]? = l[k]?.map fun r => (((i + k : Nat) : Int), r)
  | [], _, _ => by simp [rmsFrom]
  | r :: t, i, 0 => by simp [rmsFrom]
  | r :: t, i, k + 1 => by simp only [rmsFrom, List.getElem?_cons_succ, rmsFrom_get t (i + 1) k]; rw [show i + 1 + k = i + (k + 1) by omega]
theorem rmsFrom_snoc : ∀ (l : List Int) (i : Nat) (r : Int), rmsFrom i (l ++ [r]) = rmsFrom i l ++ [(((i + l.length : Nat) : Int), r)]
  | [], _, _ => by simp [rmsFrom]
  | x :: t, i, r => by
    simp only [List.cons_append, rmsFrom, rmsFrom_snoc t (i + 1) r, List.length_cons]
    rw [show i + 1 + t.length = i + (t.length + 1) by omega]
theorem mem_rms {l : List Int} {x : Rm} : x ∈ rmsFrom 0 l ↔ ∃ k, k < l.length ∧ x = ((k : Int), l.getD k 0) := by
  constructor
  · intro h
    obtain ⟨k, hk⟩ := List.getElem?_of_mem h
    have hlt := (List.getElem?_eq_some_iff.1 hk).1
    rw [rmsFrom_length] at hlt
    rw [rmsFrom_get, List.getElem?_eq_getElem hlt] at hk
    refine ⟨k, hlt, ?_⟩
    rw [List.getD_eq_getElem?_getD, List.getElem?_eq_getElem hlt]
    simpa using hk.symm
  · rintro ⟨k, hlt, rfl⟩
    refine List.mem_of_getElem? (i := k) ?_
    rw [rmsFrom_get, List.getD_eq_getElem?_getD, List.getElem?_eq_getElem hlt]
    simp

section
variable (a : Int) (ws : List Int)
def quoL : List Int := ws.map fun w => a * w / tot ws
def remL : List Int := ws.map fun w => a * w % tot ws
def centsP : Int := a - tot (quoL a ws)
def rmsP : List Rm := rmsFrom 0 (remL a ws)
def gets (i : Nat) : Bool := decide ((rank (rmsP a ws) ((i : Int), (remL a ws).getD i 0) : Int) < centsP a ws)
def partAt (i : Nat) : Int := (quoL a ws).getD i 0 + if gets a ws i then 1 else 0
def splitP : List Int := (List.range ws.length).map (partAt a ws)
end
theorem quoL_len (a : Int) (ws : List Int) : (quoL a ws).length = ws.length := by simp [quoL]
theorem remL_len (a : Int) (ws : List Int) : (remL a ws).length = ws.length := by simp [remL]
theorem rmsP_len (a : Int) (ws : List Int) : (rmsP a ws).length = ws.length := by rw [rmsP, rmsFrom_length, remL_len]
theorem splitP_len (a : Int) (ws : List Int) : (splitP a ws).length = ws.length := by simp [splitP]
theorem quoL_at (a : Int) (ws : List Int) (i : Nat) (h : i < ws.length) : (quoL a ws).getD i 0 = a * ws.getD i 0 / tot ws := by
  simp [quoL, List.getD_eq_getElem?_getD, List.getElem?_map, List.getElem?_eq_getElem h]
theorem remL_at (a : Int) (ws : List Int) (i : Nat) (h : i < ws.length) : (remL a ws).getD i 0 = a * ws.getD i 0 % tot ws := by
  simp [remL, List.getD_eq_getElem?_getD, List.getElem?_map, List.getElem?_eq_getElem h]
theorem splitP_at (a : Int) (ws : List Int) (i : Nat) (h : i < ws.length) : (splitP a ws).getD i 0 = partAt a ws i := by
  simp [splitP, List.getD_eq_getElem?_getD, List.getElem?_map, h]

/-- the cents that are left, times the total -/
theorem tot_div (a T : Int) : ∀ (l : List Int), T * tot (l.map fun w => a * w / T) + tot (l.map fun w => a * w % T) = a * tot l
  | [] => by simp [tot]
  | x :: r => by
    have ih := tot_div a T r
    simp only [List.map_cons, tot]
    have h := Int.mul_ediv_add_emod (a * x) T
    rw [Int.mul_add, Int.mul_add]
    omega
theorem cents_eq (a : Int) (ws : List Int) : tot ws * centsP a ws = tot (remL a ws) := by
  have h := tot_div a (tot ws) ws
  unfold centsP
  rw [Int.mul_sub]
  have h2 : tot ws * tot (quoL a ws) + tot (remL a ws) = a * tot ws := h
  rw [Int.mul_comm (tot ws) a]
  omega
theorem tot_nonneg : ∀ {l : List Int}, (∀ x ∈ l, 0 ≤ x) → 0 ≤ tot l
  | [], _ => by simp [tot]
  | x :: r, h => by
    have h1 := h x List.mem_cons_self
    have h2 := tot_nonneg (l := r) fun y hy => h y (List.mem_cons_of_mem _ hy)
    simp only [tot]; omega
/-- numbers below T: their sum is below the number of those above 0, times T -/
theorem tot_le {T : Int} (hT : 0 < T) : ∀ {l : List Int}, (∀ x ∈ l, 0 ≤ x ∧ x < T) → tot l ≤ (l.countP fun x => decide (0 < x) : Nat) * (T - 1)
  | [], _ => by simp [tot]
  | x :: r, h => by
    have h1 := h x List.mem_cons_self
    have h2 := tot_le hT (l := r) fun y hy => h y (List.mem_cons_of_mem _ hy)
    simp only [tot, List.countP_cons]
    by_cases hx : 0 < x
    · rw [decide_eq_true hx]
      simp only [if_true]
      rw [Int.natCast_add, Int.add_mul]
      have : ((1 : Nat) : Int) * (T - 1) = T - 1 := by simp
      omega
    · rw [decide_eq_false hx]
      simp
      omega
theorem rem_bd {a : Int} {ws : List Int} (hT : 0 < tot ws) : ∀ x ∈ remL a ws, 0 ≤ x ∧ x < tot ws := by
  intro x hx
  obtain ⟨w, _, rfl⟩ := List.mem_map.1 hx
  exact ⟨Int.emod_nonneg _ (by omega), Int.emod_lt_of_pos _ hT⟩
theorem cents_bd {a : Int} {ws : List Int} (hT : 0 < tot ws) : 0 ≤ centsP a ws ∧ (centsP a ws < ws.length ∨ centsP a ws = 0) ∧ centsP a ws ≤ ((remL a ws).countP fun x => decide (0 < x) : Nat) := by
  have h1 := cents_eq a ws
  have h2 := rem_bd (a := a) hT
  have h3 := tot_nonneg fun x hx => (h2 x hx).1
  have h4 := tot_le hT h2
  have h5 : (remL a ws).countP (fun x => decide (0 < x)) ≤ ws.length := by
    have := List.countP_le_length (p := fun x : Int => decide (0 < x)) (l := remL a ws)
    rwa [remL_len] at this
  generalize (remL a ws).countP (fun x => decide (0 < x)) = p at h4 h5 ⊢
  generalize tot (remL a ws) = R at h1 h3 h4
  generalize centsP a ws = c at h1 ⊢
  generalize tot ws = T at hT h1 h4
  clear h2
  have hc0 : 0 ≤ c := by
    rcases Int.lt_or_le c 0 with h | h
    · have := Int.mul_lt_mul_of_pos_left h hT
      omega
    · exact h
  have hcp : c = 0 ∨ c < p := by
    rcases Int.lt_or_le c p with h | h
    · exact .inr h
    · left
      have e : T * c ≤ p * (T - 1) := by omega
      have e2 : (p : Int) * (T - 1) ≤ c * (T - 1) := Int.mul_le_mul_of_nonneg_right h (by omega)
      have e3 : c * (T - 1) = T * c - c := by rw [Int.mul_sub, Int.mul_comm]; omega
      omega
  refine ⟨hc0, ?_, ?_⟩ <;> omega
end Go.Proofs.YthbdhlcimgiemaaDoor
