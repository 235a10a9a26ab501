/- Plain mathematics of a division: bounds, multiplied weights, opposite amounts. -/
import Derived.Test.YthbdhlcimgiemaaDoorMonApp
namespace Go.Proofs.YthbdhlcimgiemaaDoor
set_option linter.unusedSimpArgs false
set_option linter.unusedVariables false

theorem getD_mem {l : List Int} {i : Nat} (h : i < l.length) : l.getD i 0 ∈ l := by
  rw [List.getD_eq_getElem?_getD, List.getElem?_eq_getElem h]; exact List.getElem_mem h
/-- a part: its bounds -/
theorem quo_bds {P : Int} {ws : List Int} (h0 : 0 ≤ P) (hW : Wok ws) {i : Nat} (hi : i < ws.length) : 0 ≤ (quoL P ws).getD i 0 ∧ (quoL P ws).getD i 0 ≤ P := by
  have h1 := quo_nonneg h0 hW
  have hm : (quoL P ws).getD i 0 ∈ quoL P ws := getD_mem (by rw [quoL_len]; exact hi)
  have h2 := le_tot h1 _ hm
  have h3 := quo_take h0 hW ws.length
  rw [List.take_of_length_le (by rw [quoL_len]; exact Nat.le_refl _)] at h3
  exact ⟨h1 _ hm, by omega⟩
theorem part_bds {P : Int} {ws : List Int} (h0 : 0 ≤ P) (hW : Wok ws) {i : Nat} (hi : i < ws.length) : 0 ≤ partAt P ws i ∧ partAt P ws i ≤ P + 1 := by
  have := quo_bds h0 hW hi
  unfold partAt
  split <;> omega
theorem splitP_mem {P : Int} {ws : List Int} (h0 : 0 ≤ P) (hW : Wok ws) {x : Int} (hx : x ∈ splitP P ws) : 0 ≤ x ∧ x ≤ P + 1 := by
  obtain ⟨i, hi, rfl⟩ := List.mem_map.1 hx
  exact part_bds h0 hW (List.mem_range.1 hi)
theorem absI_bd {a : Int} (h : Am a) : 0 ≤ absI a ∧ absI a ≤ 1125899906842624 := by obtain ⟨h1, h2⟩ := h; unfold absI; split <;> omega
theorem sgn_cases (a : Int) : sgn a = 1 ∨ sgn a = -1 := by unfold sgn; split <;> simp
theorem wr_part {a x : Int} (h0 : 0 ≤ x) (h1 : x ≤ 1125899906842625) : wr64 (sgn a * x) = sgn a * x := by
  rcases sgn_cases a with h | h <;> rw [h] <;> exact wr64_in (by omega) (by omega)
/-- what Split returns, without the bounds of an int -/
theorem splitV_ok {a : Int} {ws : List Int} (ha : Am a) (hW : Wok ws) : splitV a ws = (splitP (absI a) ws).map fun x => sgn a * x := by
  unfold splitV
  rw [if_pos ha, if_pos hW]
  refine List.map_congr_left fun x hx => ?_
  have := splitP_mem (absI_bd ha).1 hW hx
  have h2 := (absI_bd ha).2
  exact wr_part this.1 (by omega)

theorem tot_mul (k : Int) : ∀ l : List Int, tot (l.map fun w => w * k) = tot l * k
  | [] => by simp [tot]
  | x :: r => by simp only [List.map_cons, tot, tot_mul k r, Int.add_mul]
theorem quo_mul {P k : Int} (hk : 0 < k) (ws : List Int) : quoL P (ws.map fun w => w * k) = quoL P ws := by
  unfold quoL
  rw [tot_mul, List.map_map]
  refine List.map_congr_left fun w _ => ?_
  show P * (w * k) / (tot ws * k) = _
  rw [← Int.mul_assoc, Int.mul_ediv_mul_of_pos_left _ _ hk]
theorem rem_mul {P k : Int} (hk : 0 < k) (ws : List Int) : remL P (ws.map fun w => w * k) = (remL P ws).map fun r => r * k := by
  unfold remL
  rw [tot_mul, List.map_map, List.map_map]
  refine List.map_congr_left fun w _ => ?_
  show P * (w * k) % (tot ws * k) = P * w % tot ws * k
  rw [← Int.mul_assoc, Int.mul_comm (P * w) k, Int.mul_comm (tot ws) k, Int.mul_emod_mul_of_pos _ _ hk, Int.mul_comm k]
theorem rms_mul (k : Int) : ∀ (l : List Int) (i : Nat), rmsFrom i (l.map fun r => r * k) = (rmsFrom i l).map fun x => (x.1, x.2 * k)
  | [], _ => rfl
  | r :: t, i => by simp only [List.map_cons, rmsFrom, rms_mul k t (i + 1)]
theorem ltR_mul {k : Int} (hk : 0 < k) (x y : Rm) : ltR (x.1, x.2 * k) (y.1, y.2 * k) = ltR x y := by
  rw [Bool.eq_iff_iff, ltR_iff, ltR_iff]
  have h1 : y.2 * k < x.2 * k ↔ y.2 < x.2 := Int.mul_lt_mul_right hk
  have h2 : x.2 * k = y.2 * k ↔ x.2 = y.2 := Int.mul_eq_mul_right_iff (by omega)
  simp only [h1, h2]
theorem gets_mul {P k : Int} (hk : 0 < k) (ws : List Int) (i : Nat) (hi : i < ws.length) : gets P (ws.map fun w => w * k) i = gets P ws i := by
  have hc : centsP P (ws.map fun w => w * k) = centsP P ws := by unfold centsP; rw [quo_mul hk]
  have hr : rank (rmsP P (ws.map fun w => w * k)) ((i : Int), (remL P (ws.map fun w => w * k)).getD i 0) = rank (rmsP P ws) ((i : Int), (remL P ws).getD i 0) := by
    unfold rank rmsP
    rw [rem_mul hk, rms_mul, List.countP_map]
    have e : ((remL P ws).map fun r => r * k).getD i 0 = (remL P ws).getD i 0 * k := by
      rw [List.getD_eq_getElem?_getD, List.getD_eq_getElem?_getD, List.getElem?_map, List.getElem?_eq_getElem (by rw [remL_len]; exact hi)]
      rfl
    rw [e]
    refine List.countP_congr fun y _ => ?_
    show ltR (y.1, y.2 * k) (((i : Int), (remL P ws).getD i 0).1, ((i : Int), (remL P ws).getD i 0).2 * k) = true ↔ _
    rw [ltR_mul hk]
  unfold gets
  rw [hc, hr]
theorem splitP_mul {P k : Int} (hk : 0 < k) (ws : List Int) : splitP P (ws.map fun w => w * k) = splitP P ws := by
  unfold splitP
  rw [List.length_map]
  refine List.map_congr_left fun i hi => ?_
  unfold partAt
  rw [quo_mul hk, gets_mul hk ws i (List.mem_range.1 hi)]
theorem wok_mul {k : Int} (hk : 1 ≤ k) {ws : List Int} (h : ∀ w ∈ ws, 0 ≤ w ∧ w * k ≤ 1000) : Wok (ws.map fun w => w * k) ↔ Wok ws := by
  have h2 : ∀ w ∈ ws, w ≤ 1000 := fun w hw => by
    obtain ⟨a, b⟩ := h w hw
    have := Int.mul_le_mul_of_nonneg_left hk a
    omega
  unfold Wok
  rw [List.length_map, tot_mul]
  constructor
  · rintro ⟨a, b, c, d⟩
    exact ⟨a, b, fun w hw => ⟨(h w hw).1, h2 w hw⟩, by
      rcases Int.lt_or_le 0 (tot ws) with h5 | h5
      · exact h5
      · have := Int.mul_le_mul_of_nonneg_right h5 (show 0 ≤ k by omega)
        rw [Int.zero_mul] at this
        omega⟩
  · rintro ⟨a, b, c, d⟩
    refine ⟨a, b, fun x hx => ?_, Int.mul_pos d (by omega)⟩
    obtain ⟨w, hw, rfl⟩ := List.mem_map.1 hx
    exact ⟨Int.mul_nonneg (h w hw).1 (by omega), (h w hw).2⟩
theorem split_scale {k : Int} (hk : 1 ≤ k) (a : Int) {ws : List Int} (h : ∀ w ∈ ws, 0 ≤ w ∧ w * k ≤ 1000) : splitV a (ws.map fun w => w * k) = splitV a ws ∧ splitE a (ws.map fun w => w * k) = splitE a ws := by
  have hw := wok_mul hk h
  unfold splitV splitE
  simp only [hw, splitP_mul (show 0 < k by omega)]
  exact ⟨trivial, trivial⟩
theorem splitP_zero {ws : List Int} (hW : Wok ws) {i : Nat} (hi : i < ws.length) : (splitP 0 ws).getD i 0 = 0 := by
  rw [splitP_at 0 ws i hi]
  have h1 := quo_bds (P := 0) (by decide) hW hi
  have h2 : centsP 0 ws ≤ 0 := by
    have := tot_nonneg (quo_nonneg (a := 0) (by decide) hW)
    unfold centsP
    omega
  unfold partAt gets
  rw [if_neg (by simp; omega)]
  omega
theorem split_neg (a : Int) (ws : List Int) : splitE (-a) ws = splitE a ws ∧ (splitV (-a) ws).length = (splitV a ws).length ∧ ∀ i, i < (splitV a ws).length → (splitV a ws).getD i 0 = -(splitV (-a) ws).getD i 0 := by
  have hA : Am (-a) ↔ Am a := by unfold Am; omega
  by_cases ha : Am a
  · by_cases hW : Wok ws
    · rw [splitV_ok ha hW, splitV_ok (hA.2 ha) hW]
      have hab : absI (-a) = absI a := by unfold absI; split <;> split <;> omega
      rw [hab]
      refine ⟨by unfold splitE; rw [if_pos ha, if_pos (hA.2 ha)], by simp, fun i hi => ?_⟩
      rw [List.length_map, splitP_len] at hi
      simp only [List.getD_eq_getElem?_getD, List.getElem?_map, List.getElem?_eq_getElem (show i < (splitP (absI a) ws).length by rw [splitP_len]; exact hi), Option.map_some, Option.getD_some]
      by_cases h0 : a = 0
      · subst h0
        have hz := splitP_zero hW hi
        rw [List.getD_eq_getElem?_getD, List.getElem?_eq_getElem (by rw [splitP_len]; exact hi)] at hz
        have hz' : (splitP (absI 0) ws)[i]'(by rw [splitP_len]; exact hi) = 0 := hz
        rw [hz']
        decide
      · have hs : sgn (-a) = -sgn a := by unfold sgn; split <;> split <;> omega
        rw [hs, Int.neg_mul, Int.neg_neg]
    · unfold splitV splitE
      simp [ha, hA.2 ha, hW]
  · have hn : ¬ Am (-a) := fun h => ha (hA.1 h)
    unfold splitV splitE
    simp [ha, hn]
end Go.Proofs.YthbdhlcimgiemaaDoor
