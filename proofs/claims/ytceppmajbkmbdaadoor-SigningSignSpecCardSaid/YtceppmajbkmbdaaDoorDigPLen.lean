/- Contracts over the digest's program: the length of a path. -/
import Derived.Test.YtceppmajbkmbdaaDoorDigTop
namespace Go.Proofs.YtceppmajbkmbdaaDoor
set_option linter.unusedSimpArgs false
set_option linter.unusedVariables false
open Go.RowKit

def lenP (n at_ : Nat) : Nat :=
  if h : n ≤ 1 then 0 else if at_ < halfN n then 1 + lenP (halfN n) at_ else 1 + lenP (n - halfN n) (at_ - halfN n)
termination_by n
decreasing_by
  · exact halfN_lt (by omega)
  · have := halfN_pos n; omega
theorem lenP_one (at_ : Nat) : lenP 1 at_ = 0 := by rw [lenP]; rfl
theorem lenP_left {n at_ : Nat} (h : 2 ≤ n) (ha : at_ < halfN n) : lenP n at_ = 1 + lenP (halfN n) at_ := by
  rw [lenP, dif_neg (by omega), if_pos ha]
theorem lenP_right {n at_ : Nat} (h : 2 ≤ n) (ha : ¬ at_ < halfN n) : lenP n at_ = 1 + lenP (n - halfN n) (at_ - halfN n) := by
  rw [lenP, dif_neg (by omega), if_neg ha]
theorem lenP_lt (n : Nat) : ∀ at_, 1 ≤ n → lenP n at_ < n := by
  induction n using Nat.strongRecOn with
  | _ n IH =>
    intro at_ h1
    by_cases h2 : n = 1
    · subst h2; rw [lenP_one]; omega
    · have hl := halfN_lt (n := n) (by omega)
      have hp := halfN_pos n
      by_cases ha : at_ < halfN n
      · rw [lenP_left (by omega) ha]; have := IH _ hl at_ hp; omega
      · rw [lenP_right (by omega) ha]; have := IH (n - halfN n) (by omega) (at_ - halfN n) (by omega); omega

set_option maxRecDepth 100000 in
set_option maxHeartbeats 4000000 in
theorem plen_any (n at_ : Nat) (h1 : 1 ≤ n) (hn : n ≤ 1099511627776) (ha : at_ < n) (w : World) :
    Calls Tryd.prog 54 #[.int .i64 (at_ : Int), .int .i64 (n : Int)] w fun x w' => x = .returned (.int .i64 ((lenP n at_ : Nat) : Int)) ∧ w' = w := by
  have hlt := lenP_lt n at_ h1
  obtain ⟨T, hT⟩ : ∃ T, T = lenP n at_ := ⟨_, rfl⟩
  rw [← hT] at hlt ⊢
  have H0 : Hid (T = lenP n at_ ∧ 1 ≤ n ∧ n ≤ 1099511627776 ∧ at_ < n ∧ T < n) := ⟨hT, h1, hn, ha, hlt⟩
  clear h1 hn ha hlt hT
  go_enter Tryd.func54, Tryd.ntmps54
  go_wp2_with fail
  go_loopg [0, 1, 5] n (fun g ya yn yl wx => ∃ (a m len : Nat), ya = .int .i64 (a : Int) ∧ yn = .int .i64 (m : Int) ∧ yl = .int .i64 (len : Int) ∧ a < m ∧ m ≤ g ∧ g ≤ 1099511627776 ∧ len + lenP m a = T ∧ wx = w)
  case atStart => exact ⟨at_, n, 0, rfl, rfl, rfl, (unhide H0).2.2.2.1, Nat.le_refl _, (unhide H0).2.2.1, by rw [(unhide H0).1]; omega, rfl⟩
  case round =>
    obtain ⟨a, m, len, rfl, rfl, rfl, ham, hmg, hgk, hlen, rfl⟩ := hrel
    by_cases hm1 : m = 1
    · subst hm1
      rw [lenP_one] at hlen
      have hlen : len = T := by omega
      subst hlen
      have HE : Hid (a < 1) := ham
      clear ham hmg hgk
      go_wp2_with fail
      go_ret
      exact ⟨rfl, rfl⟩
    · have h2 : 2 ≤ m := by omega
      obtain ⟨k, hk⟩ : ∃ k, k = halfN m := ⟨_, rfl⟩
      have hkl := halfN_lt h2
      have hk0 := halfN_pos m
      rw [← hk] at hkl hk0
      obtain ⟨g, rfl⟩ : ∃ g, gk = g + 1 := ⟨gk - 1, by omega⟩
      have hT : T < 1099511627776 := by have := unhide H0; omega
      have hm1' : (1 : Int) < (m : Int) := by omega
      have HK : Hid (k = halfN m ∧ k < m ∧ 0 < k ∧ 2 ≤ m ∧ a < m ∧ m ≤ g + 1 ∧ g + 1 ≤ 1099511627776 ∧ len + lenP m a = T ∧ T < 1099511627776) := ⟨hk, hkl, hk0, h2, ham, hmg, hgk, hlen, hT⟩
      by_cases hak : a < k
      · have i1 : (a : Int) < (k : Int) := by omega
        have e : lenP m a = 1 + lenP k a := by rw [hk]; exact lenP_left h2 (hk ▸ hak)
        have wl : IntKind.i64.wrap ((len : Int) + 1) = ((len + 1 : Nat) : Int) := (IntWalk.i64_in _ (by omega)).trans (by omega)
        obtain ⟨len1, hl1⟩ : ∃ l, l = len + 1 := ⟨_, rfl⟩
        rw [← hl1] at wl
        have HL : Hid (len1 = len + 1 ∧ lenP m a = 1 + lenP k a ∧ a < k) := ⟨hl1, e, hak⟩
        clear hk hkl hk0 h2 ham hmg hgk hlen hT hak e hl1
        go_wp2_with fail
        refine (split_any m (unhide HK).2.2.2.1 (by have := unhide HK; omega) wr).mono ?_; rintro x W2 ⟨rfl, rfl⟩
        rw [← (unhide HK).1]
        go_wp2_with fail
        go_roundg g
        case measure => omega
        case rel => have := unhide HK; have := unhide HL; exact ⟨a, k, len1, rfl, rfl, rfl, by omega, by omega, by omega, by omega, rfl⟩
      · have i1 : ¬ (a : Int) < (k : Int) := by omega
        have e : lenP m a = 1 + lenP (m - k) (a - k) := by rw [hk]; exact lenP_right h2 (hk ▸ hak)
        have wl : IntKind.i64.wrap ((len : Int) + 1) = ((len + 1 : Nat) : Int) := (IntWalk.i64_in _ (by omega)).trans (by omega)
        obtain ⟨len1, hl1⟩ : ∃ l, l = len + 1 := ⟨_, rfl⟩
        rw [← hl1] at wl
        obtain ⟨mk, hmk⟩ : ∃ l, l = m - k := ⟨_, rfl⟩
        obtain ⟨ak, hak2⟩ : ∃ l, l = a - k := ⟨_, rfl⟩
        have wm : IntKind.i64.wrap ((m : Int) - (k : Int)) = (mk : Int) := (IntWalk.i64_in _ (by omega)).trans (by omega)
        have wa : IntKind.i64.wrap ((a : Int) - (k : Int)) = (ak : Int) := (IntWalk.i64_in _ (by omega)).trans (by omega)
        have HL : Hid (len1 = len + 1 ∧ lenP m a = 1 + lenP mk ak ∧ ¬ a < k ∧ mk = m - k ∧ ak = a - k) := ⟨hl1, by rw [hmk, hak2]; exact e, hak, hmk, hak2⟩
        clear hk hkl hk0 h2 ham hmg hgk hlen hT hak e hl1 hmk hak2
        go_wp2_with fail
        refine (split_any m (unhide HK).2.2.2.1 (by have := unhide HK; omega) wr).mono ?_; rintro x W2 ⟨rfl, rfl⟩
        rw [← (unhide HK).1]
        go_wp2_with fail
        go_roundg g
        case measure => omega
        case rel => have := unhide HK; have := unhide HL; exact ⟨ak, mk, len1, rfl, rfl, rfl, by omega, by omega, by omega, by omega, rfl⟩
end Go.Proofs.YtceppmajbkmbdaaDoor
