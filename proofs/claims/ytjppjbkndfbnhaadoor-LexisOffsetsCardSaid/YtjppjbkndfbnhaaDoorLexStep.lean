/- Plain mathematics of the tokens of texts: one step of the scan. -/
import Derived.Test.YtjppjbkndfbnhaaDoorLexTok
namespace Lx
set_option linter.unusedSimpArgs false
set_option linter.unusedVariables false

theorem tok1_kind (c : B) (r : List B) : (tok1 (c :: r)).1 ≤ 4 := by
  show (tokC c r).1 ≤ 4
  unfold tokC
  split
  · simp
  · split
    · split <;> simp
    · split
      · cases qb r <;> simp
      · split
        · split <;> simp
        · simp
/-- what the scan finds from an offset on -/
def R (S : List B) (k : Nat) (e : Int) (nb : Nat) : List Tk × List Int := scan (S.length + 1 - k) (S.drop k) k e nb
theorem R_zero (S : List B) : R S 0 (-1) 0 = toks S := rfl
theorem R_end {S : List B} {k : Nat} (e : Int) (nb : Nat) (hk : k ≤ S.length) (h : k + blk false (S.drop k) = S.length) : R S k e nb = ([⟨5, ⟨#[]⟩, (S.length : Int)⟩], []) := by
  unfold R
  rw [show S.length + 1 - k = (S.length - k) + 1 by omega]
  unfold scan
  rw [List.drop_drop, h, List.drop_length]
theorem R_more {S : List B} {k k1 : Nat} {c : B} {r : List B} (e : Int) (nb : Nat) (hk : k ≤ S.length) (h : k + blk false (S.drop k) = k1) (hd : S.drop k1 = c :: r) :
    k1 + (tok1 (c :: r)).2.2 ≤ S.length ∧ R S k e nb = if (tok1 (c :: r)).1 = 0 then
        if (k1 : Int) ≠ e ∧ nb < 64 then ((R S (k1 + (tok1 (c :: r)).2.2) ((k1 + (tok1 (c :: r)).2.2 : Nat) : Int) (nb + 1)).1, (k1 : Int) :: (R S (k1 + (tok1 (c :: r)).2.2) ((k1 + (tok1 (c :: r)).2.2 : Nat) : Int) (nb + 1)).2)
        else R S (k1 + (tok1 (c :: r)).2.2) ((k1 + (tok1 (c :: r)).2.2 : Nat) : Int) nb
      else (⟨(tok1 (c :: r)).1, ⟨(tok1 (c :: r)).2.1.toArray⟩, (k1 : Int)⟩ :: (R S (k1 + (tok1 (c :: r)).2.2) e nb).1, (R S (k1 + (tok1 (c :: r)).2.2) e nb).2) := by
  have hp := tok1_pos c r
  have hlen : S.length - k1 = r.length + 1 := by
    have := congrArg List.length hd
    rw [List.length_drop, List.length_cons] at this
    exact this
  refine ⟨by omega, ?_⟩
  have hf : ∀ (e' : Int) (n : Nat), scan (S.length - k) ((c :: r).drop (tok1 (c :: r)).2.2) (k1 + (tok1 (c :: r)).2.2) e' n = R S (k1 + (tok1 (c :: r)).2.2) e' n := by
    intro e' n
    unfold R
    rw [← hd, List.drop_drop, hd]
    refine scan_fuel _ _ _ _ _ _ ?_ ?_ <;> rw [List.length_drop] <;> omega
  rw [show R S k e nb = scan (S.length - k + 1) (S.drop k) k e nb by unfold R; rw [show S.length + 1 - k = S.length - k + 1 by omega]]
  unfold scan
  rw [List.drop_drop, h, hd]
  simp only [hf]
end Lx
