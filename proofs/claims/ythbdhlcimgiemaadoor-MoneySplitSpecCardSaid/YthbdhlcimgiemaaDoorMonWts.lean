/- Contracts over the program of money: which lists are weights. -/
import Derived.Test.YthbdhlcimgiemaaDoorMonMath
import Derived.Test.YthbdhlcimgiemaaDoorMonShelf
namespace Go.Proofs.YthbdhlcimgiemaaDoor
set_option linter.unusedSimpArgs false
set_option linter.unusedVariables false
open Go.RowKit

theorem foldl_max : ∀ (l : List Int) (m : Int), m ≤ l.foldl max m ∧ (∀ x ∈ l, x ≤ l.foldl max m) ∧ (l.foldl max m = m ∨ l.foldl max m ∈ l)
  | [], m => ⟨Int.le_refl _, fun x hx => (by cases hx), .inl rfl⟩
  | x :: r, m => by
    obtain ⟨h1, h2, h3⟩ := foldl_max r (max m x)
    rw [List.foldl_cons]
    refine ⟨by omega, fun y hy => ?_, ?_⟩
    · rcases List.mem_cons.1 hy with rfl | hy
      · omega
      · exact h2 y hy
    · rcases h3 with h3 | h3
      · rw [h3]
        rcases Int.le_total m x with h | h
        · right; rw [Int.max_eq_right h]; exact List.mem_cons_self
        · left; exact Int.max_eq_left h
      · exact .inr (List.mem_cons_of_mem _ h3)
theorem foldl_min : ∀ (l : List Int) (m : Int), l.foldl min m ≤ m ∧ (∀ x ∈ l, l.foldl min m ≤ x) ∧ (l.foldl min m = m ∨ l.foldl min m ∈ l)
  | [], m => ⟨Int.le_refl _, fun x hx => (by cases hx), .inl rfl⟩
  | x :: r, m => by
    obtain ⟨h1, h2, h3⟩ := foldl_min r (min m x)
    rw [List.foldl_cons]
    refine ⟨by omega, fun y hy => ?_, ?_⟩
    · rcases List.mem_cons.1 hy with rfl | hy
      · omega
      · exact h2 y hy
    · rcases h3 with h3 | h3
      · rw [h3]
        rcases Int.le_total m x with h | h
        · left; exact Int.min_eq_left h
        · right; rw [Int.min_eq_right h]; exact List.mem_cons_self
      · exact .inr (List.mem_cons_of_mem _ h3)
theorem maxOf_is {l : List Int} (h : l ≠ []) : (∀ x ∈ l, x ≤ Lib.maxOf l) ∧ Lib.maxOf l ∈ l := by
  obtain ⟨h1, h2, h3⟩ := foldl_max l (l.headD 0)
  refine ⟨h2, ?_⟩
  rcases h3 with h3 | h3
  · show List.foldl max (l.headD 0) l ∈ l
    rw [h3]
    cases l with
    | nil => exact absurd rfl h
    | cons x r => exact List.mem_cons_self
  · exact h3
theorem minOf_is {l : List Int} (h : l ≠ []) : (∀ x ∈ l, Lib.minOf l ≤ x) ∧ Lib.minOf l ∈ l := by
  obtain ⟨h1, h2, h3⟩ := foldl_min l (l.headD 0)
  refine ⟨h2, ?_⟩
  rcases h3 with h3 | h3
  · show List.foldl min (l.headD 0) l ∈ l
    rw [h3]
    cases l with
    | nil => exact absurd rfl h
    | cons x r => exact List.mem_cons_self
  · exact h3
theorem le_tot : ∀ {l : List Int}, (∀ x ∈ l, 0 ≤ x) → ∀ x ∈ l, x ≤ tot l
  | [], _, x, hx => by cases hx
  | y :: r, h, x, hx => by
    have h1 := h y List.mem_cons_self
    have hr : ∀ z ∈ r, 0 ≤ z := fun z hz => h z (List.mem_cons_of_mem _ hz)
    simp only [tot]
    rcases List.mem_cons.1 hx with rfl | hx
    · have := tot_nonneg hr; omega
    · have := le_tot hr x hx; omega
theorem tot_zero : ∀ {l : List Int}, (∀ x ∈ l, x ≤ 0) → tot l ≤ 0
  | [], _ => by simp [tot]
  | y :: r, h => by
    have h1 := h y List.mem_cons_self
    have h2 := tot_zero (l := r) fun z hz => h z (List.mem_cons_of_mem _ hz)
    simp only [tot]; omega

/-- weights by which an amount can be divided -/
def Wok (l : List Int) : Prop := 1 ≤ l.length ∧ l.length ≤ 256 ∧ Wt l ∧ 0 < tot l
instance (l : List Int) : Decidable (Wok l) := inferInstanceAs (Decidable (_ ∧ _ ∧ (∀ x ∈ l, _) ∧ _))
theorem wok_iff {l : List Int} (h : l ≠ []) (h2 : l.length ≤ 256) : Wok l ↔ 0 ≤ Lib.minOf l ∧ 1 ≤ Lib.maxOf l ∧ Lib.maxOf l ≤ 1000 := by
  obtain ⟨a1, a2⟩ := maxOf_is h
  obtain ⟨b1, b2⟩ := minOf_is h
  have h0 := List.length_pos_iff.2 h
  constructor
  · rintro ⟨_, _, h3, h4⟩
    refine ⟨(h3 _ b2).1, ?_, (h3 _ a2).2⟩
    rcases Int.lt_or_le (Lib.maxOf l) 1 with h5 | h5
    · have := tot_zero (l := l) fun x hx => by have := a1 x hx; omega
      omega
    · exact h5
  · rintro ⟨h3, h4, h5⟩
    refine ⟨h0, h2, fun x hx => ⟨by have := b1 x hx; omega, by have := a1 x hx; omega⟩, ?_⟩
    have := le_tot (l := l) (fun x hx => by have := b1 x hx; omega) _ a2
    omega

/-- the slice's first byte, if there is one -/
theorem It.row {w : World} {A : Option Addr} {l : List Int} (h : It w A l) (h0 : 0 < l.length) : ∃ b o, A = some ⟨b, o, none⟩ ∧ b < w.heap.size ∧ ∀ j, j < l.length → w.cell? ⟨b, o + j, none⟩ = some (.int .i64 (l.getD j 0)) := by
  obtain ⟨b, o, e, hc⟩ := h.at_ (List.ne_nil_of_length_pos h0)
  exact ⟨b, o, e, lt_of_cell (hc 0 h0), hc⟩

set_option maxHeartbeats 1000000 in
theorem weights_ok (A : Option Addr) (c : Nat) (l : List Int) (w : World) (hA : It w A l) (h : Wok l) :
    Calls Tryd.prog 24 #[.slice A l.length c] w fun e w' => e = .returned (.bool true) ∧ w' = w := by
  have h0 := h
  obtain ⟨h1, h2, _, _⟩ := h0
  obtain ⟨m1, m2, m3⟩ := (wok_iff (List.ne_nil_of_length_pos h1) h2).1 h
  clear h
  obtain ⟨b, o, rfl, hb, hc⟩ := hA.row h1
  have hmx := Tryd.slices_Max_int b o l.length c l w h1 (Nat.le_refl _) (by omega) hc
  have hmn := Tryd.slices_Min_int b o l.length c l w h1 (Nat.le_refl _) (by omega) hc
  rw [List.take_of_length_le (Nat.le_refl _)] at hmx hmn
  generalize Lib.maxOf l = M at *
  generalize Lib.minOf l = m at *
  generalize l.length = n at *
  have HX := hide hmx
  have HM := hide hmn
  clear hmx hmn hA hc hb
  go_enter Tryd.func24, Tryd.ntmps24
  go_wp2_with fail
  refine (unhide HM).mono ?_; rintro e w' ⟨rfl, rfl⟩
  go_wp2_with fail
  refine (unhide HX).mono ?_; rintro e w' ⟨rfl, rfl⟩
  go_wp2_with fail
  refine (unhide HX).mono ?_; rintro e w' ⟨rfl, rfl⟩
  go_wp2_with fail
  go_ret
  exact ⟨by simp [m3], rfl⟩

set_option maxHeartbeats 1000000 in
theorem weights_no (A : Option Addr) (c : Nat) (l : List Int) (w : World) (hA : It w A l) (h : ¬ Wok l) (hl : l.length ≤ 1000000) :
    Calls Tryd.prog 24 #[.slice A l.length c] w fun e w' => e = .returned (.bool false) ∧ w' = w := by
  by_cases h1 : 1 ≤ l.length
  · by_cases h2 : l.length ≤ 256
    · have hn := fun hx => h ((wok_iff (List.ne_nil_of_length_pos h1) h2).2 hx)
      obtain ⟨b, o, rfl, hb, hc⟩ := hA.row h1
      have hmx := Tryd.slices_Max_int b o l.length c l w h1 (Nat.le_refl _) (by omega) hc
      have hmn := Tryd.slices_Min_int b o l.length c l w h1 (Nat.le_refl _) (by omega) hc
      rw [List.take_of_length_le (Nat.le_refl _)] at hmx hmn
      generalize Lib.maxOf l = M at *
      generalize Lib.minOf l = m at *
      generalize l.length = n at *
      have HX := hide hmx
      have HM := hide hmn
      clear hmx hmn hA hc hb
      by_cases m1 : 0 ≤ m
      · by_cases m2 : 1 ≤ M
        · have m3 : 1000 < M := by
            rcases Int.lt_or_le 1000 M with h3 | h3
            · exact h3
            · exact absurd ⟨m1, m2, h3⟩ hn
          clear hn
          go_enter Tryd.func24, Tryd.ntmps24
          go_wp2_with fail
          refine (unhide HM).mono ?_; rintro e w' ⟨rfl, rfl⟩
          go_wp2_with fail
          refine (unhide HX).mono ?_; rintro e w' ⟨rfl, rfl⟩
          go_wp2_with fail
          refine (unhide HX).mono ?_; rintro e w' ⟨rfl, rfl⟩
          go_wp2_with fail
          go_ret
          exact ⟨by simp; omega, rfl⟩
        · clear hn
          go_enter Tryd.func24, Tryd.ntmps24
          go_wp2_with fail
          refine (unhide HM).mono ?_; rintro e w' ⟨rfl, rfl⟩
          go_wp2_with fail
          refine (unhide HX).mono ?_; rintro e w' ⟨rfl, rfl⟩
          go_wp2_with fail
          go_ret
          exact ⟨rfl, rfl⟩
      · clear hn
        go_enter Tryd.func24, Tryd.ntmps24
        go_wp2_with fail
        refine (unhide HM).mono ?_; rintro e w' ⟨rfl, rfl⟩
        go_wp2_with fail
        go_ret
        exact ⟨rfl, rfl⟩
    · generalize l.length = n at *
      clear hA h
      go_enter Tryd.func24, Tryd.ntmps24
      go_wp2_with fail
      go_ret
      exact ⟨rfl, rfl⟩
  · generalize l.length = n at *
    clear hA h
    go_enter Tryd.func24, Tryd.ntmps24
    go_wp2_with fail
    go_ret
    exact ⟨rfl, rfl⟩
end Go.Proofs.YthbdhlcimgiemaaDoor
