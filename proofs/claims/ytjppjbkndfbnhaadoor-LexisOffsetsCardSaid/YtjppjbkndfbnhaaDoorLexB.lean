/- Contracts over the program of lexis: signs, words, integers, contents. -/
import Derived.Test.YtjppjbkndfbnhaaDoorLexA
namespace Go.Proofs.YtjppjbkndfbnhaaDoor
set_option linter.unusedSimpArgs false
set_option linter.unusedVariables false
open Go.RowKit

theorem L_toList (s : ByteArray) : s.toList = L s := Lib.toList_data s
theorem L_one {s : ByteArray} (hp : 0 < s.size) (h : s.size = 1) : L s = [s[0]] := by
  have h1 := L_drop s 0 (by omega)
  rw [List.drop_zero, List.drop_of_length_le (by rw [L_len]; omega)] at h1
  exact h1
theorem sgn_two {l : List Lx.B} (h : l.length ≠ 1) : Lx.sgnP l = (l == [60, 61] || l == [62, 61]) := by
  unfold Lx.sgnP
  match l, h with
  | [], _ => rfl
  | [c], h => exact absurd rfl h
  | a :: b :: r, _ => simp
theorem sgn_one (c : Lx.B) : Lx.sgnP [c] = Lx.isSg1 c := by
  unfold Lx.sgnP
  simp
theorem neB {a : List Lx.B} {s : ByteArray} (h : ¬ L s = a) : (s.toList == a) = false := by
  rw [L_toList]; exact beq_eq_false_iff_ne.2 h
theorem neP {a : List Lx.B} {s : ByteArray} (h : ¬ L s = a) : ¬ s.toList = a := by
  rw [L_toList]; exact h

theorem castEq (v n : Nat) : ((v : Int) == (n : Int)) = (v == n) := by
  rw [Bool.eq_iff_iff, beq_iff_eq, beq_iff_eq]; omega
theorem sign_any (s : ByteArray) (w : World) (hT : Tab w) : Calls Tryd.prog 54 #[.string s] w fun e w' => e = .returned (.bool (Lx.sgnP (L s))) ∧ w' = w := by
  have HT := hide hT
  clear hT
  by_cases h1 : L s = [60, 61]
  · have e : Lx.sgnP (L s) = true := by rw [h1]; rfl
    rw [e]
    rw [← L_toList] at h1
    clear e
    go_enter Tryd.func54, Tryd.ntmps54
    go_wp2_with fail
    go_ret
    exact ⟨rfl, rfl⟩
  · have h1b := neB h1
    have h1p := neP h1
    by_cases h2 : L s = [62, 61]
    · have e : Lx.sgnP (L s) = true := by rw [h2]; rfl
      rw [e]
      rw [← L_toList] at h2
      clear e h1
      go_enter Tryd.func54, Tryd.ntmps54
      go_wp2_with fail
      go_ret
      exact ⟨rfl, rfl⟩
    · have h2b := neB h2
      have h2p := neP h2
      by_cases h3 : s.size = 1
      · have hp : 0 < s.size := by omega
        have e : Lx.sgnP (L s) = Lx.isSg1 (s[0]'hp) := by rw [L_one hp h3, sgn_one]
        rw [e]
        unfold Lx.isSg1
        have hc := classOf_any (s[0]'hp) w (unhide HT)
        have hcl := cls_lt (s[0]'hp)
        generalize Lx.cls (s[0]'hp) = v at hc hcl
        have HC := hide hc
        have h0 : (0 : Int) < (s.size : Int) := by omega
        have h3' : (s.size : Int) = 1 := by omega
        have h3b : ((s.size : Int) == 1) = true := by rw [h3']; rfl
        clear e h1 h2 hc h3 h3'
        go_enter Tryd.func54, Tryd.ntmps54
        go_wp2_with fail
        refine (unhide HC).mono ?_; rintro e w' ⟨rfl, rfl⟩
        go_wp2_with fail
        go_ret
        exact ⟨retB (castEq _ _), rfl⟩
      · have e : Lx.sgnP (L s) = false := by rw [sgn_two (by rw [L_len]; exact h3)]; simp [h1, h2]
        rw [e]
        have h3' : ¬ (s.size : Int) = 1 := by omega
        have h3b : ((s.size : Int) == 1) = false := by rw [beq_eq_false_iff_ne]; exact h3'
        clear e h1 h2 h3
        go_enter Tryd.func54, Tryd.ntmps54
        go_wp2_with fail
        go_ret
        exact ⟨by simp, rfl⟩

theorem word_eq (l : List Lx.B) : Lx.wordP l = (decide (0 < Lx.spanN Lx.isLet l) && decide (Lx.spanN Lx.isInn l = l.length)) := by
  unfold Lx.wordP
  have h2 : decide (Lx.spanN Lx.isInn l = l.length) = l.all Lx.isInn := by
    rw [Bool.eq_iff_iff, decide_eq_true_iff, Lx.spanN_all]
  rw [h2]
  cases l with
  | nil => rfl
  | cons c r =>
    congr 1
    by_cases h : Lx.isLet c = true
    · rw [Lx.spanN_cons_pos h]; simp [h]
    · rw [Lx.spanN_cons_neg h]; simp [h]
theorem word_any (s : ByteArray) (w : World) (hT : Tab w) (hs : s.size ≤ 140737488351232) : Calls Tryd.prog 51 #[.string s] w fun e w' => e = .returned (.bool (Lx.wordP (L s))) ∧ w' = w := by
  rw [word_eq, L_len]
  have h1 := span_let s w hT hs
  have h2 := span_inn s w hT hs
  generalize Lx.spanN Lx.isLet (L s) = n1 at h1
  generalize Lx.spanN Lx.isInn (L s) = n2 at h2
  have H1 := hide h1
  have H2 := hide h2
  clear h1 h2 hT
  by_cases c1 : 0 < n1
  · by_cases c2 : n2 = s.size
    · rw [decide_eq_true c1, decide_eq_true c2]
      have c2' : ((n2 : Int) == (s.size : Int)) = true := by rw [castEq]; exact beq_iff_eq.2 c2
      clear c2
      go_enter Tryd.func51, Tryd.ntmps51
      go_wp2_with fail
      refine (unhide H1).mono ?_; rintro e w' ⟨rfl, rfl⟩
      go_wp2_with fail
      refine (unhide H2).mono ?_; rintro e w' ⟨rfl, rfl⟩
      go_wp2_with fail
      go_ret
      exact ⟨by simp_all, rfl⟩
    · rw [decide_eq_true c1, decide_eq_false c2]
      have c2' : ((n2 : Int) == (s.size : Int)) = false := by rw [castEq]; exact beq_eq_false_iff_ne.2 c2
      clear c2
      go_enter Tryd.func51, Tryd.ntmps51
      go_wp2_with fail
      refine (unhide H1).mono ?_; rintro e w' ⟨rfl, rfl⟩
      go_wp2_with fail
      refine (unhide H2).mono ?_; rintro e w' ⟨rfl, rfl⟩
      go_wp2_with fail
      go_ret
      exact ⟨by simp_all, rfl⟩
  · rw [decide_eq_false c1]
    go_enter Tryd.func51, Tryd.ntmps51
    go_wp2_with fail
    refine (unhide H1).mono ?_; rintro e w' ⟨rfl, rfl⟩
    go_wp2_with fail
    go_ret
    exact ⟨by simp <;> omega, rfl⟩

set_option maxHeartbeats 1000000 in
theorem contents_any (s : ByteArray) (w : World) (hs : s.size ≤ 140737488351232) : Calls Tryd.prog 53 #[.string s] w fun e w' => e = .returned (.bool (Lx.cntP (L s))) ∧ w' = w := by
  go_enter Tryd.func53, Tryd.ntmps53
  go_wp2_with fail
  go_loop [6] (fun i => ∃ k : Nat, k ≤ s.size ∧ Lx.cntP (L s) = Lx.cntP ((L s).drop k) ∧ i = .int .i64 (k : Int)) (fun i => s.size - (intOf i).toNat)
  case atStart => exact ⟨0, Nat.zero_le _, by rw [List.drop_zero], rfl⟩
  case round =>
    obtain ⟨k, hk, hs', rfl⟩ := hrel
    have HS := hide hs'
    clear hs'
    by_cases hlt : k < s.size
    · have hd := L_drop s k hlt
      have HD := hide hd
      have hv := visible_any s[k] w
      have HV := hide hv
      clear hd hv
      cases hb : Lx.vis s[k]
      · have HB := hide hb
        clear hb
        by_cases h10 : s[k].toNat = 10
        · have hc : Lx.cntP (L s) = Lx.cntP ((L s).drop (k + 1)) := by
            rw [unhide HS, unhide HD]
            have : s[k] = 10 := (Lx.eq_byte (n := 10) (by decide)).2 h10
            rw [this]; rfl
          have HC := hide hc
          have h10' : ((s[k].toNat : Int) != 10) = false := by rw [h10]; rfl
          clear hc h10
          go_wp2_with fail
          refine (unhide HV).mono ?_; rintro e w' ⟨rfl, rfl⟩
          rw [unhide HB]
          go_wp2_with fail
          go_round
          case rel => exact ⟨k + 1, by omega, unhide HC, by go_num⟩
          case measure => simp [intOf]; omega
        · have hc : Lx.cntP (L s) = false := by
            rw [unhide HS, unhide HD]
            have : ¬ s[k] = 10 := fun e => h10 ((Lx.eq_byte (n := 10) (by decide)).1 e)
            unfold Lx.cntP
            rw [List.all_cons, unhide HB]
            simp [this]
          have HC := hide hc
          have h10' : ((s[k].toNat : Int) != 10) = true := by rw [bne_iff_ne]; omega
          clear hc h10
          go_wp2_with fail
          refine (unhide HV).mono ?_; rintro e w' ⟨rfl, rfl⟩
          rw [unhide HB]
          go_wp2_with fail
          go_ret
          exact ⟨retB (unhide HC).symm, rfl⟩
      · have HB := hide hb
        clear hb
        have hc : Lx.cntP (L s) = Lx.cntP ((L s).drop (k + 1)) := by
          rw [unhide HS, unhide HD]
          unfold Lx.cntP
          rw [List.all_cons, unhide HB]
          simp
        have HC := hide hc
        clear hc
        go_wp2_with fail
        refine (unhide HV).mono ?_; rintro e w' ⟨rfl, rfl⟩
        rw [unhide HB]
        go_wp2_with fail
        go_round
        case rel => exact ⟨k + 1, by omega, unhide HC, by go_num⟩
        case measure => simp [intOf]; omega
    · have hc : Lx.cntP (L s) = true := by rw [unhide HS, List.drop_of_length_le (by rw [L_len]; omega)]; rfl
      have HC := hide hc
      clear hc
      go_wp2_with fail
      go_ret
      exact ⟨retB (unhide HC).symm, rfl⟩

theorem trim_minus (l : List Lx.B) : Lib.trimPrefix l [45] = Lx.unMinus l := by
  unfold Lib.trimPrefix Lib.hasPrefix Lx.unMinus
  cases l with
  | nil => rfl
  | cons c r =>
    simp only [List.isPrefixOf, List.isPrefixOf_nil_left, Bool.and_true]
    by_cases h : c = 45
    · subst h; rfl
    · rw [if_neg h, if_neg]
      intro e
      exact h (beq_iff_eq.1 e).symm
theorem int_eq (s d : ByteArray) (hp : L d = Lx.unMinus (L s)) : Lx.intP (L s) = ((L s == [48]) || (decide (0 < d.size) && decide (d.size ≤ 18) && ((L d).head? != some 48) && decide (Lx.spanN Lx.isDig (L d) = d.size))) := by
  unfold Lx.intP
  rw [← hp, L_len]
  have h2 : decide (Lx.spanN Lx.isDig (L d) = d.size) = (L d).all Lx.isDig := by
    rw [Bool.eq_iff_iff, decide_eq_true_iff, ← L_len, Lx.spanN_all]
  rw [h2]
theorem unMinus_len (l : List Lx.B) : (Lx.unMinus l).length ≤ l.length := by
  unfold Lx.unMinus
  cases l with
  | nil => exact Nat.le_refl _
  | cons c r =>
    simp only
    split
    · simp
    · exact Nat.le_refl _
theorem intArr (l : List Lx.B) : ∃ d : ByteArray, d = ⟨l.toArray⟩ ∧ L d = l := ⟨_, rfl, L_mk l⟩
set_option maxHeartbeats 1000000 in
theorem integer_any (s : ByteArray) (w : World) (hT : Tab w) (hs : s.size ≤ 140737488351232) : Calls Tryd.prog 52 #[.string s] w fun e w' => e = .returned (.bool (Lx.intP (L s))) ∧ w' = w := by
  have ht := Tryd.strings_TrimPrefix s ⟨#[45]⟩ w
  rw [show Lib.trimPrefix s.data.toList (⟨#[45]⟩ : ByteArray).data.toList = Lx.unMinus (L s) from trim_minus _] at ht
  obtain ⟨d, hd, hL⟩ := intArr (Lx.unMinus (L s))
  rw [← hd] at ht
  rw [int_eq s d hL]
  have hds : d.size ≤ s.size := by
    rw [← L_len d, hL, ← L_len s]
    exact unMinus_len _
  have hsp := span_dig d w hT (by omega)
  have HT := hide ht
  have HS := hide hsp
  clear ht hsp hT hd
  by_cases h0 : L s = [48]
  · rw [show (L s == [48]) = true from beq_iff_eq.2 h0, Bool.true_or]
    rw [← L_toList] at h0
    clear hL
    go_enter Tryd.func52, Tryd.ntmps52
    go_wp2_with fail
    go_ret
    exact ⟨rfl, rfl⟩
  have h0b := neB h0
  have h0p := neP h0
  rw [show (L s == [48]) = false from beq_eq_false_iff_ne.2 h0, Bool.false_or]
  clear h0 hL
  by_cases h1 : 0 < d.size
  · by_cases h2 : d.size ≤ 18
    · have hh : (L d).head? = some d[0] := by rw [← List.drop_zero (l := L d), L_drop d 0 h1]; rfl
      rw [hh, decide_eq_true h1, decide_eq_true h2]
      clear hh
      by_cases h3 : d[0] = 48
      · rw [h3]
        have h3' : (((d[0]'h1).toNat : Int) != 48) = false := by rw [h3]; rfl
        clear h3
        go_enter Tryd.func52, Tryd.ntmps52
        go_wp2_with fail
        refine (unhide HT).mono ?_; rintro e w' ⟨rfl, rfl⟩
        go_wp2_with fail
        go_ret
        exact ⟨rfl, rfl⟩
      · have h3' : (((d[0]'h1).toNat : Int) != 48) = true := by
          rw [bne_iff_ne]
          intro e
          exact h3 ((Lx.eq_byte (n := 48) (by decide)).2 (by omega))
        rw [show (some (d[0]'h1) != some (48 : Lx.B)) = true from by rw [bne_iff_ne]; intro e; injection e with e; exact h3 e]
        clear h3
        generalize Lx.spanN Lx.isDig (L d) = n at HS
        by_cases h4 : n = d.size
        · rw [decide_eq_true h4]
          have h4' : ((n : Int) == (d.size : Int)) = true := by rw [castEq]; exact beq_iff_eq.2 h4
          clear h4
          go_enter Tryd.func52, Tryd.ntmps52
          go_wp2_with fail
          refine (unhide HT).mono ?_; rintro e w' ⟨rfl, rfl⟩
          go_wp2_with fail
          refine (unhide HS).mono ?_; rintro e w' ⟨rfl, rfl⟩
          go_wp2_with fail
          go_ret
          exact ⟨by simp_all, rfl⟩
        · rw [decide_eq_false h4]
          have h4' : ((n : Int) == (d.size : Int)) = false := by rw [castEq]; exact beq_eq_false_iff_ne.2 h4
          clear h4
          go_enter Tryd.func52, Tryd.ntmps52
          go_wp2_with fail
          refine (unhide HT).mono ?_; rintro e w' ⟨rfl, rfl⟩
          go_wp2_with fail
          refine (unhide HS).mono ?_; rintro e w' ⟨rfl, rfl⟩
          go_wp2_with fail
          go_ret
          exact ⟨by simp_all, rfl⟩
    · rw [decide_eq_false h2, Bool.and_false, Bool.false_and, Bool.false_and]
      go_enter Tryd.func52, Tryd.ntmps52
      go_wp2_with fail
      refine (unhide HT).mono ?_; rintro e w' ⟨rfl, rfl⟩
      go_wp2_with fail
      go_ret
      exact ⟨by simp <;> omega, rfl⟩
  · rw [decide_eq_false h1, Bool.false_and, Bool.false_and, Bool.false_and]
    go_enter Tryd.func52, Tryd.ntmps52
    go_wp2_with fail
    refine (unhide HT).mono ?_; rintro e w' ⟨rfl, rfl⟩
    go_wp2_with fail
    go_ret
    exact ⟨by simp <;> omega, rfl⟩
end Go.Proofs.YtjppjbkndfbnhaaDoor
