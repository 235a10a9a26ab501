/- Plain mathematics of a division: the parts add up and are exact to a cent. -/
import Derived.Test.YthbdhlcimgiemaaDoorMonScale
namespace Go.Proofs.YthbdhlcimgiemaaDoor
set_option linter.unusedSimpArgs false
set_option linter.unusedVariables false

theorem rms_range (l : List Int) : rmsFrom 0 l = (List.range l.length).map fun (i : Nat) => ((i : Int), l.getD i 0) := by
  apply List.ext_getElem?
  intro k
  rw [rmsFrom_get, List.getElem?_map]
  rcases Nat.lt_or_ge k l.length with h | h
  · rw [List.getElem?_range h, List.getElem?_eq_getElem h, Option.map_some, Option.map_some, Nat.zero_add]
    simp only [List.getElem?_eq_getElem h, Option.getD_some, List.getD_eq_getElem?_getD]
  · rw [List.getElem?_eq_none h, List.getElem?_eq_none (by simpa using h)]
    rfl
theorem self_range (l : List Int) : (List.range l.length).map (fun i => l.getD i 0) = l := by
  apply List.ext_getElem?
  intro k
  rw [List.getElem?_map]
  rcases Nat.lt_or_ge k l.length with h | h
  · rw [List.getElem?_range h]
    simp only [Option.map_some, List.getD_eq_getElem?_getD, List.getElem?_eq_getElem h, Option.getD_some]
  · rw [List.getElem?_eq_none h, List.getElem?_eq_none (by simpa using h)]
    rfl
theorem tot_plus (f : Nat → Int) (g : Nat → Bool) : ∀ l : List Nat, tot (l.map fun i => f i + if g i then 1 else 0) = tot (l.map f) + (l.countP g : Int)
  | [] => by simp [tot]
  | x :: r => by
    have ih := tot_plus f g r
    simp only [List.map_cons, tot, ih, List.countP_cons]
    cases g x
    · simp; omega
    · simp; omega
theorem exists_sorted {l : List Rm} (hn : l.Nodup) : ∃ s : List Rm, s.Perm l ∧ Before s := by
  have hp := List.mergeSort_perm l (fun x y => !ltR y x)
  refine ⟨l.mergeSort (fun x y => !ltR y x), hp, before_of (hp.nodup_iff.2 hn) ?_⟩
  have h := List.pairwise_mergeSort (le := fun x y : Rm => !ltR y x) (fun a b c h1 h2 => by
    simp only [Bool.not_eq_true', Bool.eq_false_iff, Ne, ltR_iff] at *
    omega) (fun a b => by
    cases h : ltR b a with
    | false => simp
    | true => simp [ltR_asym h]) l
  exact h.imp fun {x y} h => by simpa using h
theorem before_count {s : List Rm} (hb : Before s) {c : Nat} (hc : c ≤ s.length) : s.countP (fun x => decide (rank s x < c)) = c := by
  have hsp : s = s.take c ++ s.drop c := (List.take_append_drop c s).symm
  have h1 : (s.take c).countP (fun x => decide (rank s x < c)) = c := by
    rw [List.countP_eq_length.2, List.length_take]
    · omega
    · intro x hx
      simpa using (mem_take_iff hb (List.mem_of_mem_take hx)).1 hx
  have h2 : (s.drop c).countP (fun x => decide (rank s x < c)) = 0 := by
    rw [List.countP_eq_zero]
    intro x hx hr
    have hr' : rank s x < c := by simpa using hr
    have hxt := (mem_take_iff hb (List.mem_of_mem_drop hx)).2 hr'
    have hb2 : (s.take c ++ s.drop c).Pairwise fun x y => ltR x y = true := by rw [List.take_append_drop]; exact hb
    have := (List.pairwise_append.1 hb2).2.2 x hxt x hx
    rw [ltR_irr] at this
    cases this
  have h3 := List.countP_append (p := fun x => decide (rank s x < c)) (l₁ := s.take c) (l₂ := s.drop c)
  rw [List.take_append_drop, h1, h2] at h3
  omega
theorem gets_count {P : Int} {ws : List Int} (hW : Wok ws) : ((List.range ws.length).countP (gets P ws) : Int) = centsP P ws := by
  have hcb := cents_bd (a := P) hW.2.2.2
  obtain ⟨c, hc⟩ : ∃ c : Nat, centsP P ws = c := ⟨(centsP P ws).toNat, by omega⟩
  obtain ⟨s, hp, hb⟩ := exists_sorted (rms_nodup (remL P ws) 0).1
  have hl : s.length = ws.length := by rw [hp.length_eq, rmsFrom_length, remL_len]
  have h1 := before_count hb (c := c) (by rw [hl]; rcases hcb.2.1 with h | h <;> omega)
  rw [hp.countP_eq] at h1
  have e : (rmsFrom 0 (remL P ws)).countP (fun x => decide (rank s x < c)) = (List.range ws.length).countP (gets P ws) := by
    rw [rms_range, List.countP_map, remL_len]
    refine List.countP_congr fun i hi => ?_
    show decide (rank s ((i : Int), (remL P ws).getD i 0) < c) = true ↔ _
    unfold gets
    rw [rank_perm hp, hc]
    simp [rmsP]
  rw [← e, h1, hc]
theorem tot_splitP {P : Int} {ws : List Int} (hW : Wok ws) : tot (splitP P ws) = P := by
  have h := tot_plus (fun i => (quoL P ws).getD i 0) (gets P ws) (List.range ws.length)
  have h2 : tot ((List.range ws.length).map fun i => (quoL P ws).getD i 0) = tot (quoL P ws) := by
    have := self_range (quoL P ws)
    rw [quoL_len] at this
    rw [this]
  rw [h2, gets_count hW] at h
  have e : splitP P ws = (List.range ws.length).map fun i => (quoL P ws).getD i 0 + if gets P ws i then 1 else 0 := rfl
  rw [e, h]
  unfold centsP
  omega
theorem gets_rem {P : Int} {ws : List Int} (hW : Wok ws) {i : Nat} (hi : i < ws.length) (h : gets P ws i = true) : 0 < (remL P ws).getD i 0 := by
  have hcb := (cents_bd (a := P) hW.2.2.2).2.2
  have hb := rem_bd (a := P) hW.2.2.2
  have hri := hb _ (getD_mem (show i < (remL P ws).length by rw [remL_len]; exact hi))
  rcases Int.lt_or_le 0 ((remL P ws).getD i 0) with h0 | h0
  · exact h0
  · exfalso
    have hz : (remL P ws).getD i 0 = 0 := by omega
    have hlt : (rank (rmsP P ws) ((i : Int), (remL P ws).getD i 0) : Int) < centsP P ws := by
      unfold gets at h
      simpa using h
    have h1 : (remL P ws).countP (fun x => decide (0 < x)) ≤ rank (rmsP P ws) ((i : Int), (remL P ws).getD i 0) := by
      have e : (remL P ws).countP (fun x => decide (0 < x)) = (rmsP P ws).countP fun y => decide (0 < y.2) := by
        have h2 := congrArg (List.countP fun x => decide (0 < x)) (self_range (remL P ws))
        rw [List.countP_map] at h2
        rw [← h2, rmsP, rms_range, List.countP_map]
        rfl
      rw [e]
      unfold rank
      refine List.countP_mono_left fun y _ hy => ?_
      have hy' : 0 < y.2 := by simpa using hy
      rw [ltR_iff]
      left
      show (remL P ws).getD i 0 < y.2
      omega
    omega
theorem part_zero {P : Int} {ws : List Int} (hW : Wok ws) {i : Nat} (hi : i < ws.length) (h : ws.getD i 0 = 0) : partAt P ws i = 0 := by
  have h1 := quoL_at P ws i hi
  have h2 := remL_at P ws i hi
  rw [h] at h1 h2
  simp at h1 h2
  unfold partAt
  rw [List.getD_eq_getElem?_getD, h1]
  cases hg : gets P ws i with
  | false => simp
  | true =>
    have := gets_rem hW hi hg
    rw [List.getD_eq_getElem?_getD, h2] at this
    omega
theorem rank_mono {l : List Rm} {x y : Rm} (h : ltR x y = true) : rank l x ≤ rank l y := by
  unfold rank
  refine List.countP_mono_left fun z _ hz => ?_
  rw [ltR_iff] at *
  omega
theorem part_mono {P : Int} {ws : List Int} (h0 : 0 ≤ P) (hW : Wok ws) {i k : Nat} (hi : i < ws.length) (hk : k < ws.length) (h : ws.getD k 0 < ws.getD i 0) : partAt P ws k ≤ partAt P ws i := by
  have hq1 := quoL_at P ws i hi
  have hq2 := quoL_at P ws k hk
  have hr1 := remL_at P ws i hi
  have hr2 := remL_at P ws k hk
  have hT := hW.2.2.2
  have hmul : P * ws.getD k 0 ≤ P * ws.getD i 0 := Int.mul_le_mul_of_nonneg_left (by omega) h0
  have hq : P * ws.getD k 0 / tot ws ≤ P * ws.getD i 0 / tot ws := Int.ediv_le_ediv hT hmul
  unfold partAt
  rw [hq1, hq2]
  rcases Int.lt_or_le (P * ws.getD k 0 / tot ws) (P * ws.getD i 0 / tot ws) with h1 | h1
  · split <;> split <;> omega
  · have he : P * ws.getD k 0 / tot ws = P * ws.getD i 0 / tot ws := by omega
    rw [he]
    cases hg : gets P ws k with
    | false => simp; split <;> omega
    | true =>
      have hrk := gets_rem hW hk hg
      have d1 := Int.mul_ediv_add_emod (P * ws.getD i 0) (tot ws)
      have d2 := Int.mul_ediv_add_emod (P * ws.getD k 0) (tot ws)
      rw [he] at d2
      have hlt : P * ws.getD k 0 < P * ws.getD i 0 := by
        rcases Int.lt_or_le 0 P with hP | hP
        · exact Int.mul_lt_mul_of_pos_left h hP
        · exfalso
          have : P = 0 := by omega
          rw [hr2, this] at hrk
          simp at hrk
      have hgi : gets P ws i = true := by
        unfold gets at hg ⊢
        have hm := rank_mono (l := rmsP P ws) (x := ((i : Int), (remL P ws).getD i 0)) (y := ((k : Int), (remL P ws).getD k 0)) (by
          rw [ltR_iff]
          left
          show (remL P ws).getD k 0 < (remL P ws).getD i 0
          rw [hr1, hr2]
          omega)
        simp only [decide_eq_true_eq] at hg ⊢
        omega
      rw [hgi]
      exact Int.le_refl _
theorem part_equal {P : Int} {ws : List Int} {i k : Nat} (hi : i < ws.length) (hk : k < ws.length) (h : ws.getD k 0 = ws.getD i 0) : partAt P ws k ≤ partAt P ws i + 1 := by
  have hq1 := quoL_at P ws i hi
  have hq2 := quoL_at P ws k hk
  unfold partAt
  rw [hq1, hq2, h]
  split <;> split <;> omega
theorem part_exact {P : Int} {ws : List Int} (hW : Wok ws) {i : Nat} (hi : i < ws.length) :
    P * ws.getD i 0 / tot ws ≤ partAt P ws i ∧ partAt P ws i ≤ P * ws.getD i 0 / tot ws + 1 ∧ (partAt P ws i = P * ws.getD i 0 / tot ws + 1 → P * ws.getD i 0 % tot ws ≠ 0) := by
  have hq1 := quoL_at P ws i hi
  have hr1 := remL_at P ws i hi
  unfold partAt
  rw [hq1]
  cases hg : gets P ws i with
  | false => simp; omega
  | true =>
    have := gets_rem hW hi hg
    rw [hr1] at this
    rw [if_pos rfl]
    omega
theorem part_le {P : Int} {ws : List Int} (h0 : 0 ≤ P) (hW : Wok ws) {i : Nat} (hi : i < ws.length) : 0 ≤ partAt P ws i ∧ partAt P ws i ≤ P := by
  have h1 := part_bds h0 hW hi
  refine ⟨h1.1, ?_⟩
  have h2 : (splitP P ws).getD i 0 ∈ splitP P ws := getD_mem (by rw [splitP_len]; exact hi)
  have h3 := le_tot (fun x hx => (splitP_mem h0 hW hx).1) _ h2
  rw [tot_splitP hW, splitP_at P ws i hi] at h3
  exact h3
end Go.Proofs.YthbdhlcimgiemaaDoor
