/- Plain mathematics of the calendar: no program. -/
namespace CalM
set_option linter.unusedSimpArgs false
set_option linter.unusedVariables false

def leap (y : Int) : Bool := decide (y % 4 = 0 ∧ (y % 100 ≠ 0 ∨ y % 400 = 0))
def fd (y : Int) : Int := 365 * (y - 2000) + (y - 2000 + 3) / 4 - (y - 2000 + 99) / 100 + (y - 2000 + 399) / 400
def ml (y m : Int) : Int :=
  if m = 2 then (if leap y then 29 else 28) else if m = 4 ∨ m = 6 ∨ m = 9 ∨ m = 11 then 30 else 31
def yl (y : Int) : Int := if leap y then 366 else 365
def isDay (n : Int) : Bool := decide (0 ≤ n ∧ n ≤ 1048576)
theorem isDay_iff (n : Int) : isDay n = true ↔ 0 ≤ n ∧ n ≤ 1048576 := by simp [isDay]
def lens : Nat → Int
  | 0 => 31 | 1 => 28 | 2 => 31 | 3 => 30 | 4 => 31 | 5 => 30 | 6 => 31 | 7 => 31 | 8 => 30 | 9 => 31 | 10 => 30 | 11 => 31 | _ => 0

theorem leap_t {y : Int} (h : y % 4 = 0) (h1 : y % 100 ≠ 0 ∨ y % 400 = 0) : leap y = true := by simp [leap]; exact ⟨h, h1⟩
theorem leap_f4 {y : Int} (h : ¬ y % 4 = 0) : leap y = false := by simp [leap]; intro g; exact absurd g h
theorem leap_f {y : Int} (h : y % 100 = 0) (h1 : ¬ y % 400 = 0) : leap y = false := by simp [leap]; intro _; exact ⟨h, h1⟩
theorem leap_iff (y : Int) : leap y = true ↔ (y % 4 = 0 ∧ (y % 100 ≠ 0 ∨ y % 400 = 0)) := by simp [leap]

theorem ml_lens (y m : Int) (h0 : 1 ≤ m) (h1 : m ≤ 12) (h2 : ¬ (m = 2 ∧ leap y = true)) : ml y m = lens (m - 1).toNat := by
  have : m = 1 ∨ m = 2 ∨ m = 3 ∨ m = 4 ∨ m = 5 ∨ m = 6 ∨ m = 7 ∨ m = 8 ∨ m = 9 ∨ m = 10 ∨ m = 11 ∨ m = 12 := by omega
  rcases this with rfl | rfl | rfl | rfl | rfl | rfl | rfl | rfl | rfl | rfl | rfl | rfl <;> simp [ml, lens]
  simpa using h2
theorem ml_bd (y m : Int) : 28 ≤ ml y m ∧ ml y m ≤ 31 := by unfold ml; repeat' split <;> omega
theorem fd_succ (y : Int) : fd (y + 1) = fd y + yl y := by
  unfold fd yl
  by_cases hl : leap y = true
  · rw [if_pos hl]
    have := (leap_iff y).1 hl
    omega
  · rw [if_neg hl]
    have : ¬ (y % 4 = 0 ∧ (y % 100 ≠ 0 ∨ y % 400 = 0)) := fun h => hl ((leap_iff y).2 h)
    omega


/-- days before month m of year y -/
def cum (y m : Int) : Int :=
  if m ≤ 1 then 0 else if m = 2 then 31 else
  (if m = 3 then 59 else if m = 4 then 90 else if m = 5 then 120 else if m = 6 then 151 else if m = 7 then 181 else if m = 8 then 212
    else if m = 9 then 243 else if m = 10 then 273 else if m = 11 then 304 else if m = 12 then 334 else 365) + (if leap y then 1 else 0)
theorem cum_succ (y m : Int) (h0 : 1 ≤ m) (h1 : m ≤ 12) : cum y (m + 1) = cum y m + ml y m := by
  have : m = 1 ∨ m = 2 ∨ m = 3 ∨ m = 4 ∨ m = 5 ∨ m = 6 ∨ m = 7 ∨ m = 8 ∨ m = 9 ∨ m = 10 ∨ m = 11 ∨ m = 12 := by omega
  cases hl : leap y <;> rcases this with rfl | rfl | rfl | rfl | rfl | rfl | rfl | rfl | rfl | rfl | rfl | rfl <;> simp [cum, ml, hl]
theorem cum_bd (y m : Int) : 0 ≤ cum y m ∧ cum y m ≤ 366 := by unfold cum; repeat' split <;> omega
theorem cum_13 (y : Int) : cum y 13 = yl y := by cases hl : leap y <;> simp [cum, yl, hl]
theorem yl_bd (y : Int) : 365 ≤ yl y ∧ yl y ≤ 366 := by unfold yl; split <;> omega
def num (y m d : Int) : Int := fd y + cum y m + d - 1
def vld (y m d : Int) : Bool := decide (2000 ≤ y ∧ 1 ≤ m ∧ m ≤ 12 ∧ 1 ≤ d ∧ d ≤ ml y m)
theorem vld_iff (y m d : Int) : vld y m d = true ↔ (2000 ≤ y ∧ 1 ≤ m ∧ m ≤ 12 ∧ 1 ≤ d ∧ d ≤ ml y m) := by simp [vld]
theorem vld_not {y m d : Int} (h : ¬ (2000 ≤ y ∧ 1 ≤ m ∧ m ≤ 12 ∧ 1 ≤ d ∧ d ≤ ml y m)) : vld y m d = false := by
  cases e : vld y m d with
  | false => rfl
  | true => exact absurd ((vld_iff y m d).1 e) h
theorem fd_lower (y : Int) (h : 2000 ≤ y) : 365 * (y - 2000) ≤ fd y := by unfold fd; omega
theorem fd_upper (y : Int) (h : 2000 ≤ y) : fd y ≤ 366 * (y - 2000) + 2 := by unfold fd; omega
theorem cum_lt (y m d : Int) (h0 : 1 ≤ m) (h1 : m ≤ 12) (h2 : d ≤ ml y m) : cum y m + d ≤ yl y := by
  have hh := cum_succ y m h0 h1
  have h13 := cum_13 y
  have key : cum y (m + 1) ≤ cum y 13 := by
    have : m = 1 ∨ m = 2 ∨ m = 3 ∨ m = 4 ∨ m = 5 ∨ m = 6 ∨ m = 7 ∨ m = 8 ∨ m = 9 ∨ m = 10 ∨ m = 11 ∨ m = 12 := by omega
    cases hl : leap y <;> rcases this with rfl | rfl | rfl | rfl | rfl | rfl | rfl | rfl | rfl | rfl | rfl | rfl <;> simp [cum, hl]
  omega
theorem num_bd (y m d : Int) (h : vld y m d = true) : fd y ≤ num y m d ∧ num y m d < fd (y + 1) := by
  obtain ⟨_, h2, h3, h4, h5⟩ := (vld_iff y m d).1 h
  have := cum_lt y m d h2 h3 h5
  have := cum_bd y m
  have := fd_succ y
  unfold num; omega
theorem fd_mono (a b : Int) (h : a ≤ b) : fd a ≤ fd b := by unfold fd; omega
theorem cum_mono (y a b : Int) (h0 : 1 ≤ a) (h : a ≤ b) (h1 : b ≤ 13) : cum y a ≤ cum y b := by
  obtain ⟨k, rfl⟩ : ∃ k : Nat, b = a + k := ⟨(b - a).toNat, by omega⟩
  clear h
  induction k with
  | zero => simp
  | succ k ih =>
    have e : a + ((k + 1 : Nat) : Int) = (a + k) + 1 := by omega
    rw [e] at h1 ⊢
    have := cum_succ y (a + k) (by omega) (by omega)
    have := ml_bd y (a + k)
    have := ih (by omega)
    omega
theorem num_lt (y m d y' m' d' : Int) (h : vld y m d = true) (h' : vld y' m' d' = true)
    (hl : y < y' ∨ y = y' ∧ (m < m' ∨ m = m' ∧ d < d')) : num y m d < num y' m' d' := by
  have b := num_bd y m d h
  have b' := num_bd y' m' d' h'
  obtain ⟨g1, g2, g3, g4, g5⟩ := (vld_iff y m d).1 h
  obtain ⟨k1, k2, k3, k4, k5⟩ := (vld_iff y' m' d').1 h'
  rcases hl with hl | ⟨rfl, hl⟩
  · have := fd_mono (y + 1) y' (by omega); omega
  · rcases hl with hl | ⟨rfl, hl⟩
    · have := cum_mono y (m + 1) m' (by omega) (by omega) (by omega)
      have := cum_succ y m g2 g3
      unfold num; omega
    · unfold num; omega
theorem num_inj (y m d y' m' d' : Int) (h : vld y m d = true) (h' : vld y' m' d' = true) (e : num y m d = num y' m' d') : y = y' ∧ m = m' ∧ d = d' := by
  by_cases a : y = y'
  · by_cases b : m = m'
    · refine ⟨a, b, ?_⟩
      subst a b
      unfold num at e; omega
    · rcases Int.lt_or_gt_of_ne b with b | b
      · have := num_lt y m d y' m' d' h h' (by omega); omega
      · have := num_lt y' m' d' y m d h' h (by omega); omega
  · rcases Int.lt_or_gt_of_ne a with b | b
    · have := num_lt y m d y' m' d' h h' (by omega); omega
    · have := num_lt y' m' d' y m d h' h (by omega); omega
theorem vld_year (y m d : Int) (h : vld y m d = true) (hn : num y m d ≤ 1048576) : y ≤ 4900 := by
  have b := num_bd y m d h
  have := fd_lower y ((vld_iff y m d).1 h).1
  omega

/-- the number of a date, if it is one -/
def ok (y m d : Int) : Bool := vld y m d && decide (num y m d ≤ 1048576)

end CalM
