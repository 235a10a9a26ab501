/- Plain mathematics of the tokens of texts: what begins a text, by the class of its first byte. -/
import Derived.Test.YtjppjbkndfbnhaaDoorLexMath
namespace Lx
set_option linter.unusedSimpArgs false
set_option linter.unusedVariables false

theorem isLet_of (c : B) : isLet c = true ↔ cls c = 1 := by unfold isLet; exact beq_iff_eq
theorem isDig_of (c : B) : isDig c = true ↔ cls c = 2 := by unfold isDig; exact beq_iff_eq
theorem isSg1_of (c : B) : isSg1 c = true ↔ cls c = 32 := by unfold isSg1; exact beq_iff_eq
theorem c45 (c : B) : c = 45 ↔ cls c = 8 := by rw [cls_minus]; exact eq_byte (n := 45) (by decide)
theorem c34 (c : B) : c = 34 ↔ cls c = 16 := by rw [cls_quote]; exact eq_byte (n := 34) (by decide)
theorem inn_let {c : B} (h : isLet c = true) : isInn c = true := by unfold isInn; unfold isLet at h; simp [h]
theorem inn_dig {c : B} (h : isDig c = true) : isInn c = true := by unfold isInn; unfold isDig at h; simp [h]
theorem tok_let {c : B} {r : List B} (h : cls c = 1) : tok1 (c :: r) = (1, (c :: r).take (spanN isInn (c :: r)), spanN isInn (c :: r)) := by
  show tokC c r = _
  unfold tokC
  rw [if_pos ((isLet_of c).2 h), takeWhile_eq_take]
theorem tok_other {c : B} {r : List B} (h1 : cls c ≠ 1) (h2 : cls c ≠ 2) (h8 : cls c ≠ 8) (h16 : cls c ≠ 16) (h32 : cls c ≠ 32) : tok1 (c :: r) = (0, [], 1) := by
  show tokC c r = _
  unfold tokC
  have e1 : isLet c = false := by rw [Bool.eq_false_iff]; exact fun e => h1 ((isLet_of c).1 e)
  have e2 : isDig c = false := by rw [Bool.eq_false_iff]; exact fun e => h2 ((isDig_of c).1 e)
  have e3 : (c == 45) = false := by rw [beq_eq_false_iff_ne]; exact fun e => h8 ((c45 c).1 e)
  have e4 : isSg1 c = false := by rw [Bool.eq_false_iff]; exact fun e => h32 ((isSg1_of c).1 e)
  rw [e1, e2, e3, e4, if_neg (show ¬ (false = true) by decide), if_neg (show ¬ ((false || (false && nxD r)) = true) by simp), if_neg (fun e => h16 ((c34 c).1 e)), if_neg (show ¬ (false = true) by decide)]
theorem tok_quote {r : List B} : tok1 (34 :: r) = match qb r with | some x => (3, x.1, x.2 + 1) | none => (0, [], 1) := by
  show tokC 34 r = _
  unfold tokC
  rw [if_neg (by decide), if_neg (by rw [show isDig 34 = false from by decide]; simp), if_pos rfl]
  cases qb r <;> rfl
theorem tok_sign {c : B} {r : List B} (h : cls c = 32) : tok1 (c :: r) = (4, (c :: r).take (if (decide (1 < (c :: r).length) && sgnP ((c :: r).take 2)) = true then 2 else 1), if (decide (1 < (c :: r).length) && sgnP ((c :: r).take 2)) = true then 2 else 1) := by
  show tokC c r = _
  unfold tokC
  have e1 : isLet c = false := by rw [Bool.eq_false_iff]; exact fun e => by have := (isLet_of c).1 e; omega
  have e2 : isDig c = false := by rw [Bool.eq_false_iff]; exact fun e => by have := (isDig_of c).1 e; omega
  have e3 : (c == 45) = false := by rw [beq_eq_false_iff_ne]; exact fun e => by have := (c45 c).1 e; omega
  rw [e1, e2, e3, if_neg (show ¬ (false = true) by decide), if_neg (show ¬ ((false || (false && nxD r)) = true) by simp), if_neg (fun e => by have := (c34 c).1 e; omega), if_pos ((isSg1_of c).2 h)]
  have hd : decide (1 < (c :: r).length) = decide (1 ≤ r.length) := by
    rw [decide_eq_decide, List.length_cons]; omega
  rw [hd]
  cases hs : sgnP ((c :: r).take 2) <;> cases hl : decide (1 ≤ r.length) <;> simp
theorem nxD_span : ∀ r : List B, nxD r = true ↔ spanN isDig r ≠ 0
  | [] => by simp [nxD, spanN]
  | d :: r => by
    show isDig d = true ↔ _
    by_cases h : isDig d = true
    · rw [spanN_cons_pos h]; simp [h]
    · rw [spanN_cons_neg h]; simp [h]
theorem unMinus_no {c : B} {r : List B} (h : c ≠ 45) : unMinus (c :: r) = c :: r := by unfold unMinus; exact if_neg h
theorem unMinus_yes {r : List B} : unMinus (45 :: r) = r := rfl
theorem tok_num0 {c : B} {r : List B} (h : cls c = 2 ∨ cls c = 8) (h0 : spanN isDig (unMinus (c :: r)) = 0) : tok1 (c :: r) = (0, [], 1) := by
  rcases h with h | h
  · rw [unMinus_no (fun e => by have := (c45 c).1 e; omega), spanN_cons_pos ((isDig_of c).2 h)] at h0
    omega
  · obtain rfl := (c45 c).2 h
    rw [unMinus_yes] at h0
    show tokC 45 r = _
    unfold tokC
    have e : nxD r = false := by rw [Bool.eq_false_iff]; exact fun e => (nxD_span r).1 e h0
    rw [if_neg (by decide), if_neg (by rw [e]; decide), if_neg (by decide), if_neg (by decide)]
theorem tok_num {c : B} {r : List B} (h : cls c = 2 ∨ cls c = 8) (h0 : spanN isDig (unMinus (c :: r)) ≠ 0) :
    (c :: r).length - (unMinus (c :: r)).length + spanN isInn (unMinus (c :: r)) ≤ (c :: r).length ∧
    tok1 (c :: r) = if intP ((c :: r).take ((c :: r).length - (unMinus (c :: r)).length + spanN isInn (unMinus (c :: r)))) = true then
      (2, (c :: r).take ((c :: r).length - (unMinus (c :: r)).length + spanN isInn (unMinus (c :: r))), (c :: r).length - (unMinus (c :: r)).length + spanN isInn (unMinus (c :: r))) else (0, [], (c :: r).length - (unMinus (c :: r)).length + spanN isInn (unMinus (c :: r))) := by
  have hlet : ¬ isLet c = true := fun e => by have := (isLet_of c).1 e; omega
  have hr := spanN_le isInn r
  have hn : (c :: r).length - (unMinus (c :: r)).length + spanN isInn (unMinus (c :: r)) = spanN isInn r + 1 ∧ (isDig c || (c == 45 && nxD r)) = true := by
    rcases h with h | h
    · rw [unMinus_no (fun e => by have := (c45 c).1 e; omega)]
      have hd := (isDig_of c).2 h
      rw [spanN_cons_pos (inn_dig hd), hd]
      exact ⟨by omega, rfl⟩
    · obtain rfl := (c45 c).2 h
      rw [unMinus_yes] at h0 ⊢
      rw [(nxD_span r).2 h0, List.length_cons]
      exact ⟨by omega, by decide⟩
  rw [hn.1]
  refine ⟨by rw [List.length_cons]; omega, ?_⟩
  show tokC c r = _
  unfold tokC
  rw [if_neg hlet, if_pos hn.2, List.take_succ_cons, ← takeWhile_eq_take]
end Lx
