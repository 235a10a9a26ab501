/- Contracts over the program of lexis: the reference's bytes, words, integers, contents and signs. (Written by wip/tools/gen_lexra.py.) -/
import Derived.Test.YtjppjbkndfbnhaaDoorLexB
namespace Go.Proofs.YtjppjbkndfbnhaaDoor
set_option linter.unusedSimpArgs false
set_option linter.unusedVariables false
open Go.RowKit

theorem rlet_any (c : Lx.B) (w : World) : Calls Tryd.prog 46 #[.int .u8 (c.toNat : Int)] w fun e w' => e = .returned (.bool (Lx.isLet c)) ∧ w' = w := by
  have h255 : c.toNat < 256 := c.toNat_lt
  have hi := Lx.isLet_iff c
  generalize Lx.isLet c = b at hi ⊢
  generalize c.toNat = n at hi h255
  by_cases c0 : 97 ≤ n ∧ n ≤ 122
  · obtain rfl : b = true := by exact hi.2 (.inl c0)
    obtain ⟨d1, d2⟩ := c0
    clear hi
    go_enter Tryd.func46, Tryd.ntmps46
    go_wp2
    go_ret
    exact ⟨by simp <;> omega, rfl⟩
  by_cases c1 : 65 ≤ n ∧ n ≤ 90
  · obtain rfl : b = true := by exact hi.2 (.inr c1)
    obtain ⟨d1, d2⟩ := c1
    clear hi
    go_enter Tryd.func46, Tryd.ntmps46
    go_wp2
    go_ret
    exact ⟨by simp <;> omega, rfl⟩
  by_cases c2 : 122 < n
  · obtain rfl : b = false := by rw [Bool.eq_false_iff]; intro e; have := hi.1 e; omega
    clear hi
    go_enter Tryd.func46, Tryd.ntmps46
    go_wp2
    go_ret
    exact ⟨by simp <;> omega, rfl⟩
  by_cases c3 : n < 65
  · obtain rfl : b = false := by rw [Bool.eq_false_iff]; intro e; have := hi.1 e; omega
    clear hi
    go_enter Tryd.func46, Tryd.ntmps46
    go_wp2
    go_ret
    exact ⟨by simp <;> omega, rfl⟩
  obtain rfl : b = false := by rw [Bool.eq_false_iff]; intro e; have := hi.1 e; omega
  have c4 : 90 < n := by omega
  have c5 : n < 97 := by omega
  clear hi
  go_enter Tryd.func46, Tryd.ntmps46
  go_wp2
  go_ret
  exact ⟨by simp <;> omega, rfl⟩
theorem rdig_any (c : Lx.B) (w : World) : Calls Tryd.prog 48 #[.int .u8 (c.toNat : Int)] w fun e w' => e = .returned (.bool (Lx.isDig c)) ∧ w' = w := by
  have h255 : c.toNat < 256 := c.toNat_lt
  have hi := Lx.isDig_iff c
  generalize Lx.isDig c = b at hi ⊢
  generalize c.toNat = n at hi h255
  by_cases c0 : 48 ≤ n
  · by_cases c1 : n ≤ 57
    · obtain rfl : b = true := hi.2 ⟨c0, c1⟩
      clear hi
      go_enter Tryd.func48, Tryd.ntmps48
      go_wp2
      go_ret
      exact ⟨by simp <;> omega, rfl⟩
    · obtain rfl : b = false := by rw [Bool.eq_false_iff]; intro e; have := hi.1 e; omega
      clear hi
      go_enter Tryd.func48, Tryd.ntmps48
      go_wp2
      go_ret
      exact ⟨by simp <;> omega, rfl⟩
  · obtain rfl : b = false := by rw [Bool.eq_false_iff]; intro e; have := hi.1 e; omega
    clear hi
    go_enter Tryd.func48, Tryd.ntmps48
    go_wp2
    go_ret
    exact ⟨by simp <;> omega, rfl⟩
theorem inn_eq (c : Lx.B) : Lx.isInn c = (Lx.isLet c || Lx.isDig c || decide (c.toNat = 95)) := by
  rw [Bool.eq_iff_iff, Lx.isInn_iff, Bool.or_eq_true, Bool.or_eq_true, Lx.isLet_iff, Lx.isDig_iff, decide_eq_true_iff]
  omega
theorem rinn_any (c : Lx.B) (w : World) : Calls Tryd.prog 47 #[.int .u8 (c.toNat : Int)] w fun e w' => e = .returned (.bool (Lx.isInn c)) ∧ w' = w := by
  rw [inn_eq]
  have h255 : c.toNat < 256 := c.toNat_lt
  have h1 := fun W => rlet_any c W
  have h2 := fun W => rdig_any c W
  generalize Lx.isLet c = b1 at h1 ⊢
  generalize Lx.isDig c = b2 at h2 ⊢
  have H1 := hide h1; have H2 := hide h2
  clear h1 h2
  generalize c.toNat = n at H1 H2 h255 ⊢
  cases b1
  · cases b2
    · by_cases h95 : n = 95
      · have q : ((n : Int) == 95) = true := by rw [h95]; rfl
        rw [decide_eq_true h95]
        clear h95
        go_enter Tryd.func47, Tryd.ntmps47
        go_wp2_with fail
        refine ((unhide H1) _).mono ?_; rintro e w' ⟨rfl, rfl⟩
        go_wp2_with fail
        refine ((unhide H2) _).mono ?_; rintro e w' ⟨rfl, rfl⟩
        go_wp2_with fail
        go_ret
        exact ⟨rfl, rfl⟩
      · have q : ((n : Int) == 95) = false := by rw [beq_eq_false_iff_ne]; omega
        rw [decide_eq_false h95]
        clear h95
        go_enter Tryd.func47, Tryd.ntmps47
        go_wp2_with fail
        refine ((unhide H1) _).mono ?_; rintro e w' ⟨rfl, rfl⟩
        go_wp2_with fail
        refine ((unhide H2) _).mono ?_; rintro e w' ⟨rfl, rfl⟩
        go_wp2_with fail
        go_ret
        exact ⟨rfl, rfl⟩
    · go_enter Tryd.func47, Tryd.ntmps47
      go_wp2_with fail
      refine ((unhide H1) _).mono ?_; rintro e w' ⟨rfl, rfl⟩
      go_wp2_with fail
      refine ((unhide H2) _).mono ?_; rintro e w' ⟨rfl, rfl⟩
      go_wp2_with fail
      go_ret
      exact ⟨rfl, rfl⟩
  · go_enter Tryd.func47, Tryd.ntmps47
    go_wp2_with fail
    refine ((unhide H1) _).mono ?_; rintro e w' ⟨rfl, rfl⟩
    go_wp2_with fail
    go_ret
    exact ⟨rfl, rfl⟩

theorem take_snocL (s : ByteArray) (k : Nat) (h : k < s.size) : (L s).take (k + 1) = (L s).take k ++ [s[k]] := by
  rw [List.take_succ_eq_append_getElem (by rw [L_len]; exact h)]
  rfl
theorem all_no {p : Lx.B → Bool} {s : ByteArray} {k : Nat} (h : k < s.size) (hp : p s[k] = false) : (L s).all p = false := by
  rw [List.all_eq_false]
  exact ⟨s[k], List.mem_of_getElem? (i := k) (by rw [List.getElem?_eq_getElem (by rw [L_len]; exact h)]; rfl), by rw [hp]; decide⟩
set_option maxHeartbeats 1000000 in
theorem rword_any (s : ByteArray) (w : World) (hs : s.size ≤ 140737488351232) : Calls Tryd.prog 32 #[.string s] w fun e w' => e = .returned (.bool (Lx.wordP (L s))) ∧ w' = w := by
  go_enter Tryd.func32, Tryd.ntmps32
  go_wp2_with fail
  go_loop [3] (fun i => ∃ k : Nat, k ≤ s.size ∧ ((L s).take k).all Lx.isInn = true ∧ i = .int .i64 (k : Int)) (fun i => s.size - (intOf i).toNat)
  case atStart => exact ⟨0, Nat.zero_le _, rfl, rfl⟩
  case round =>
    obtain ⟨k, hk, hall, rfl⟩ := hrel
    have HALL := hide hall
    clear hall
    by_cases hlt : k < s.size
    · have hv := fun W => rinn_any s[k] W
      have HT := hide (take_snocL s k hlt)
      cases hb : Lx.isInn s[k]
      · rw [hb] at hv
        have HV := hide hv
        have HF := hide (show Lx.wordP (L s) = false by unfold Lx.wordP; rw [all_no hlt hb, Bool.and_false])
        clear hv hb
        go_wp2_with fail
        refine ((unhide HV) _).mono ?_; rintro e w' ⟨rfl, rfl⟩
        go_wp2_with fail
        go_ret
        exact ⟨retB (unhide HF).symm, rfl⟩
      · rw [hb] at hv
        have HV := hide hv
        have HX := hide (show ((L s).take (k + 1)).all Lx.isInn = true by rw [unhide HT, List.all_append, unhide HALL]; simp [hb])
        clear hv hb
        go_wp2_with fail
        refine ((unhide HV) _).mono ?_; rintro e w' ⟨rfl, rfl⟩
        go_wp2_with fail
        go_round
        case rel => exact ⟨k + 1, by omega, unhide HX, by go_num⟩
        case measure => simp [intOf]; omega
    · have hall : (L s).all Lx.isInn = true := by
        have := unhide HALL
        rwa [List.take_of_length_le (by rw [L_len]; omega)] at this
      by_cases hp : 0 < s.size
      · have hl := fun W => rlet_any (s[0]'hp) W
        have hf : Lx.wordP (L s) = Lx.isLet (s[0]'hp) := by
          unfold Lx.wordP
          rw [hall, Bool.and_true, show L s = s[0]'hp :: (L s).drop 1 from by have := L_drop s 0 hp; rwa [List.drop_zero] at this]
        generalize Lx.isLet (s[0]'hp) = b at hl hf
        have HL := hide hl; have HF := hide hf
        clear hl hf hall
        go_wp2_with fail
        refine ((unhide HL) _).mono ?_; rintro e w' ⟨rfl, rfl⟩
        go_wp2_with fail
        go_ret
        exact ⟨retB (unhide HF).symm, rfl⟩
      · have hf : Lx.wordP (L s) = false := by
          unfold Lx.wordP
          rw [List.eq_nil_iff_length_eq_zero.2 (show (L s).length = 0 by rw [L_len]; omega)]
          rfl
        have HF := hide hf
        clear hf hall
        go_wp2_with fail
        go_ret
        exact ⟨retB (unhide HF).symm, rfl⟩

set_option maxHeartbeats 1000000 in
theorem rcont_any (s : ByteArray) (w : World) (hs : s.size ≤ 140737488351232) : Calls Tryd.prog 34 #[.string s] w fun e w' => e = .returned (.bool (Lx.cntP (L s))) ∧ w' = w := by
  go_enter Tryd.func34, Tryd.ntmps34
  go_wp2_with fail
  go_loop [3] (fun i => ∃ k : Nat, k ≤ s.size ∧ Lx.cntP ((L s).take k) = true ∧ i = .int .i64 (k : Int)) (fun i => s.size - (intOf i).toNat)
  case atStart => exact ⟨0, Nat.zero_le _, rfl, rfl⟩
  case round =>
    obtain ⟨k, hk, hall, rfl⟩ := hrel
    have HALL := hide hall
    clear hall
    by_cases hlt : k < s.size
    · have HT := hide (take_snocL s k hlt)
      have h255 : s[k].toNat < 256 := s[k].toNat_lt
      have hcv : (s[k] == 10 || Lx.vis s[k]) = decide (s[k].toNat = 10 ∨ 32 ≤ s[k].toNat ∧ s[k].toNat ≤ 126) := by
        rw [Bool.eq_iff_iff, Bool.or_eq_true, beq_iff_eq, decide_eq_true_iff]
        unfold Lx.vis
        rw [Bool.and_eq_true, decide_eq_true_iff, decide_eq_true_iff]
        exact or_congr (Lx.eq_byte (n := 10) (by decide)) Iff.rfl
      by_cases hb : s[k].toNat = 10 ∨ 32 ≤ s[k].toNat ∧ s[k].toNat ≤ 126
      · have HX := hide (show Lx.cntP ((L s).take (k + 1)) = true by
          have q := unhide HALL
          unfold Lx.cntP at q ⊢
          rw [unhide HT, List.all_append, q, List.all_cons, hcv, decide_eq_true hb]; rfl)
        clear hcv
        rcases hb with hb | ⟨hb1, hb2⟩
        · have q1 : ((s[k].toNat : Int) != 10) = false := by rw [hb]; rfl
          clear hb
          go_wp2_with fail
          go_round
          case rel => exact ⟨k + 1, by omega, unhide HX, by go_num⟩
          case measure => simp [intOf]; omega
        · have q1 : ((s[k].toNat : Int) != 10) = true := by rw [bne_iff_ne]; omega
          have q2 : decide ((s[k].toNat : Int) < 32) = false := by rw [decide_eq_false_iff_not]; omega
          have q3 : decide ((126 : Int) < (s[k].toNat : Int)) = false := by rw [decide_eq_false_iff_not]; omega
          have q2' : ¬ (s[k].toNat : Int) < 32 := by omega
          have q3' : ¬ (126 : Int) < (s[k].toNat : Int) := by omega
          clear hb1 hb2
          go_wp2_with fail
          go_round
          case rel => exact ⟨k + 1, by omega, unhide HX, by go_num⟩
          case measure => simp [intOf]; omega
      · have HF := hide (show Lx.cntP (L s) = false by unfold Lx.cntP; exact all_no (p := fun c => c == 10 || Lx.vis c) hlt (by show (s[k] == 10 || Lx.vis s[k]) = false; rw [hcv, decide_eq_false hb]))
        have q1 : ((s[k].toNat : Int) != 10) = true := by rw [bne_iff_ne]; omega
        clear hcv
        by_cases h32 : s[k].toNat < 32
        · have q2 : decide ((s[k].toNat : Int) < 32) = true := by rw [decide_eq_true_iff]; omega
          have q2' : (s[k].toNat : Int) < 32 := by omega
          clear hb h32
          go_wp2_with fail
          go_ret
          exact ⟨retB (unhide HF).symm, rfl⟩
        · have q2 : decide ((s[k].toNat : Int) < 32) = false := by rw [decide_eq_false_iff_not]; omega
          have q2' : ¬ (s[k].toNat : Int) < 32 := by omega
          have q3' : (126 : Int) < (s[k].toNat : Int) := by omega
          have q3 : decide ((126 : Int) < (s[k].toNat : Int)) = true := by rw [decide_eq_true_iff]; omega
          clear hb h32
          go_wp2_with fail
          go_ret
          exact ⟨retB (unhide HF).symm, rfl⟩
    · have hall : Lx.cntP (L s) = true := by
        have := unhide HALL
        rwa [List.take_of_length_le (by rw [L_len]; omega)] at this
      have HF := hide hall
      clear hall
      go_wp2_with fail
      go_ret
      exact ⟨retB (unhide HF).symm, rfl⟩

def sgL : List (List Lx.B) := [[123], [125], [40], [41], [91], [93], [59], [44], [58], [47], [61], [60], [62], [60, 61], [62, 61]]
theorem sg_mem (l : List Lx.B) : Lx.sgnP l = true ↔ l ∈ sgL := by
  unfold Lx.sgnP sgL
  simp only [Bool.or_eq_true, beq_iff_eq, List.mem_cons, List.not_mem_nil, or_false]
  constructor
  · rintro ((h | h) | h)
    · subst h; simp
    · subst h; simp
    · match l, h with
      | [c], h =>
        have := (Lx.isSg1_iff c).1 h
        simp only [List.mem_cons, List.not_mem_nil, or_false] at this
        simp only [List.cons.injEq, and_true, reduceCtorEq, and_false, or_false]
        have e : ∀ n : Nat, n < 256 → c.toNat = n → c = UInt8.ofNat n := fun n hn h => (Lx.eq_byte hn).2 h
        rcases this with h | h | h | h | h | h | h | h | h | h | h | h | h <;> (have := e _ (by decide) h; subst this; decide)
  · intro h
    rcases h with h | h | h | h | h | h | h | h | h | h | h | h | h | h | h <;> subst h <;> simp <;> decide
set_option maxRecDepth 100000 in
set_option maxHeartbeats 8000000 in
theorem rsign_yes (s : ByteArray) (w : World) (h : L s ∈ sgL) : Calls Tryd.prog 36 #[.string s] w fun e w' => e = .returned (.bool true) ∧ w' = w := by
  unfold sgL at h
  simp only [List.mem_cons, List.not_mem_nil, or_false] at h
  rcases h with h | h | h | h | h | h | h | h | h | h | h | h | h | h | h
  · obtain rfl : s = ⟨#[123]⟩ := L_eq h
    clear h
    go_enter Tryd.func36, Tryd.ntmps36
    go_wp2_with fail
    go_ret
    exact ⟨rfl, rfl⟩
  · obtain rfl : s = ⟨#[125]⟩ := L_eq h
    clear h
    go_enter Tryd.func36, Tryd.ntmps36
    go_wp2_with fail
    go_ret
    exact ⟨rfl, rfl⟩
  · obtain rfl : s = ⟨#[40]⟩ := L_eq h
    clear h
    go_enter Tryd.func36, Tryd.ntmps36
    go_wp2_with fail
    go_ret
    exact ⟨rfl, rfl⟩
  · obtain rfl : s = ⟨#[41]⟩ := L_eq h
    clear h
    go_enter Tryd.func36, Tryd.ntmps36
    go_wp2_with fail
    go_ret
    exact ⟨rfl, rfl⟩
  · obtain rfl : s = ⟨#[91]⟩ := L_eq h
    clear h
    go_enter Tryd.func36, Tryd.ntmps36
    go_wp2_with fail
    go_ret
    exact ⟨rfl, rfl⟩
  · obtain rfl : s = ⟨#[93]⟩ := L_eq h
    clear h
    go_enter Tryd.func36, Tryd.ntmps36
    go_wp2_with fail
    go_ret
    exact ⟨rfl, rfl⟩
  · obtain rfl : s = ⟨#[59]⟩ := L_eq h
    clear h
    go_enter Tryd.func36, Tryd.ntmps36
    go_wp2_with fail
    go_ret
    exact ⟨rfl, rfl⟩
  · obtain rfl : s = ⟨#[44]⟩ := L_eq h
    clear h
    go_enter Tryd.func36, Tryd.ntmps36
    go_wp2_with fail
    go_ret
    exact ⟨rfl, rfl⟩
  · obtain rfl : s = ⟨#[58]⟩ := L_eq h
    clear h
    go_enter Tryd.func36, Tryd.ntmps36
    go_wp2_with fail
    go_ret
    exact ⟨rfl, rfl⟩
  · obtain rfl : s = ⟨#[47]⟩ := L_eq h
    clear h
    go_enter Tryd.func36, Tryd.ntmps36
    go_wp2_with fail
    go_ret
    exact ⟨rfl, rfl⟩
  · obtain rfl : s = ⟨#[61]⟩ := L_eq h
    clear h
    go_enter Tryd.func36, Tryd.ntmps36
    go_wp2_with fail
    go_ret
    exact ⟨rfl, rfl⟩
  · obtain rfl : s = ⟨#[60]⟩ := L_eq h
    clear h
    go_enter Tryd.func36, Tryd.ntmps36
    go_wp2_with fail
    go_ret
    exact ⟨rfl, rfl⟩
  · obtain rfl : s = ⟨#[62]⟩ := L_eq h
    clear h
    go_enter Tryd.func36, Tryd.ntmps36
    go_wp2_with fail
    go_ret
    exact ⟨rfl, rfl⟩
  · obtain rfl : s = ⟨#[60, 61]⟩ := L_eq h
    clear h
    go_enter Tryd.func36, Tryd.ntmps36
    go_wp2_with fail
    go_ret
    exact ⟨rfl, rfl⟩
  · obtain rfl : s = ⟨#[62, 61]⟩ := L_eq h
    clear h
    go_enter Tryd.func36, Tryd.ntmps36
    go_wp2_with fail
    go_ret
    exact ⟨rfl, rfl⟩
set_option maxRecDepth 100000 in
set_option maxHeartbeats 8000000 in
theorem rsign_no (s : ByteArray) (w : World) (h : L s ∉ sgL) : Calls Tryd.prog 36 #[.string s] w fun e w' => e = .returned (.bool false) ∧ w' = w := by
  unfold sgL at h
  simp only [List.mem_cons, List.not_mem_nil, or_false, not_or] at h
  obtain ⟨h0, h1, h2, h3, h4, h5, h6, h7, h8, h9, h10, h11, h12, h13, h14⟩ := h
  have b0 := neB h0; have p0 := neP h0
  have b1 := neB h1; have p1 := neP h1
  have b2 := neB h2; have p2 := neP h2
  have b3 := neB h3; have p3 := neP h3
  have b4 := neB h4; have p4 := neP h4
  have b5 := neB h5; have p5 := neP h5
  have b6 := neB h6; have p6 := neP h6
  have b7 := neB h7; have p7 := neP h7
  have b8 := neB h8; have p8 := neP h8
  have b9 := neB h9; have p9 := neP h9
  have b10 := neB h10; have p10 := neP h10
  have b11 := neB h11; have p11 := neP h11
  have b12 := neB h12; have p12 := neP h12
  have b13 := neB h13; have p13 := neP h13
  have b14 := neB h14; have p14 := neP h14
  clear h0 h1 h2 h3 h4 h5 h6 h7 h8 h9 h10 h11 h12 h13 h14
  go_enter Tryd.func36, Tryd.ntmps36
  go_wp2_with fail
  go_ret
  exact ⟨rfl, rfl⟩
theorem rsign_any (s : ByteArray) (w : World) : Calls Tryd.prog 36 #[.string s] w fun e w' => e = .returned (.bool (Lx.sgnP (L s))) ∧ w' = w := by
  by_cases h : L s ∈ sgL
  · rw [(sg_mem _).2 h]; exact rsign_yes s w h
  · rw [show Lx.sgnP (L s) = false by rw [Bool.eq_false_iff]; exact fun e => h ((sg_mem _).1 e)]; exact rsign_no s w h
end Go.Proofs.YtjppjbkndfbnhaaDoor
