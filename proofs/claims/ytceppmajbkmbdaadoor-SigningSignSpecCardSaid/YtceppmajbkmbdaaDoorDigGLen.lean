/- Contracts over the digest's program: how long a growth is. -/
import Derived.Test.YtceppmajbkmbdaaDoorDigHalf
import Derived.Test.YtceppmajbkmbdaaDoorDigPLen
namespace Go.Proofs.YtceppmajbkmbdaaDoor
set_option linter.unusedSimpArgs false
set_option linter.unusedVariables false
open Go.RowKit

def gLen (n m : Nat) (whole : Bool) : Nat :=
  if h : m ≤ n ∨ m ≤ 1 then (if whole then 0 else 1) else if n ≤ halfN m then 1 + gLen n (halfN m) whole else 1 + gLen (n - halfN m) (m - halfN m) false
termination_by m
decreasing_by
  · exact halfN_lt (by omega)
  · have := halfN_pos m; omega
theorem gLen_end {n : Nat} (whole : Bool) : gLen n n whole = if whole then 0 else 1 := by rw [gLen, dif_pos (Or.inl (Nat.le_refl _))]
theorem gLen_left {n m : Nat} (whole : Bool) (h1 : 1 ≤ n) (h : n < m) (ha : n ≤ halfN m) : gLen n m whole = 1 + gLen n (halfN m) whole := by
  rw [gLen, dif_neg (by omega), if_pos ha]
theorem gLen_right {n m : Nat} (whole : Bool) (h1 : 1 ≤ n) (h : n < m) (ha : ¬ n ≤ halfN m) : gLen n m whole = 1 + gLen (n - halfN m) (m - halfN m) false := by
  rw [gLen, dif_neg (by omega), if_neg ha]
theorem gLen_le (m : Nat) : ∀ n whole, 1 ≤ n → n ≤ m → gLen n m whole ≤ m := by
  induction m using Nat.strongRecOn with
  | _ m IH =>
    intro n whole h1 hn
    by_cases h : n = m
    · subst h
      rw [gLen_end]
      split <;> omega
    · have hl := halfN_lt (n := m) (by omega)
      have hp := halfN_pos m
      by_cases ha : n ≤ halfN m
      · rw [gLen_left whole h1 (by omega) ha]; have := IH _ hl n whole h1 ha; omega
      · rw [gLen_right whole h1 (by omega) ha]; have := IH (m - halfN m) (by omega) (n - halfN m) false (by omega) (by omega); omega

set_option maxRecDepth 100000 in
set_option maxHeartbeats 4000000 in
theorem glen_any (n m : Nat) (h1 : 1 ≤ n) (hnm : n ≤ m) (hm : m ≤ 1099511627776) (w : World) :
    Calls Tryd.prog 60 #[.int .i64 (n : Int), .int .i64 (m : Int)] w fun x w' => x = .returned (.int .i64 ((gLen n m true : Nat) : Int)) ∧ w' = w := by
  have hle := gLen_le m n true h1 hnm
  obtain ⟨T, hT⟩ : ∃ T, T = gLen n m true := ⟨_, rfl⟩
  rw [← hT] at hle ⊢
  have H0 : Hid (T = gLen n m true ∧ 1 ≤ n ∧ n ≤ m ∧ m ≤ 1099511627776 ∧ T ≤ m) := ⟨hT, h1, hnm, hm, hle⟩
  clear h1 hnm hm hle hT
  go_enter Tryd.func60, Tryd.ntmps60
  go_wp2_with fail
  go_loopg [0, 1, 5, 6] m (fun g ya yn yl yw wx => ∃ (a r len : Nat) (b : Bool), ya = .int .i64 (a : Int) ∧ yn = .int .i64 (r : Int) ∧ yl = .int .i64 (len : Int) ∧ yw = .bool b ∧ 1 ≤ a ∧ a ≤ r ∧ r ≤ g ∧ g ≤ 1099511627776 ∧ len + gLen a r b = T ∧ wx = w)
  case atStart => exact ⟨n, m, 0, true, rfl, rfl, rfl, rfl, (unhide H0).2.1, (unhide H0).2.2.1, Nat.le_refl _, (unhide H0).2.2.2.1, by rw [(unhide H0).1]; omega, rfl⟩
  case round =>
    obtain ⟨a, r, len, b, rfl, rfl, rfl, rfl, ha1, har, hrg, hgk, hlen, rfl⟩ := hrel
    by_cases hm1 : a = r
    · subst hm1
      rw [gLen_end] at hlen
      have i0 : ¬ (a : Int) < (a : Int) := by omega
      have HE : Hid (1 ≤ a) := ha1
      cases b
      · have hl2 : len + 1 = T := by simpa using hlen
        have hT' : T ≤ 1099511627776 := by have := unhide H0; omega
        have wl : IntKind.i64.wrap ((len : Int) + 1) = (T : Int) := (IntWalk.i64_in _ (by omega)).trans (by omega)
        clear ha1 har hrg hgk hlen hl2 hT'
        go_wp2_with fail
        go_ret
        exact ⟨rfl, rfl⟩
      · have hl2 : len = T := by simpa using hlen
        subst hl2
        clear ha1 har hrg hgk hlen
        go_wp2_with fail
        go_ret
        exact ⟨rfl, rfl⟩
    · have h2 : a < r := by omega
      obtain ⟨k, hk⟩ : ∃ k, k = halfN r := ⟨_, rfl⟩
      have hkl := halfN_lt (n := r) (by omega)
      have hk0 := halfN_pos r
      rw [← hk] at hkl hk0
      obtain ⟨g, rfl⟩ : ∃ g, gk = g + 1 := ⟨gk - 1, by omega⟩
      have hT : T ≤ 1099511627776 := by have := unhide H0; omega
      have i0 : (a : Int) < (r : Int) := by omega
      have HK : Hid (k = halfN r ∧ k < r ∧ 0 < k ∧ a < r ∧ 1 ≤ a ∧ r ≤ g + 1 ∧ g + 1 ≤ 1099511627776 ∧ len + gLen a r b = T ∧ T ≤ 1099511627776) := ⟨hk, hkl, hk0, h2, ha1, hrg, hgk, hlen, hT⟩
      obtain ⟨len1, hl1⟩ : ∃ l, l = len + 1 := ⟨_, rfl⟩
      by_cases hak : a ≤ k
      · have i1 : (a : Int) ≤ (k : Int) := by omega
        have e : gLen a r b = 1 + gLen a k b := by rw [hk]; exact gLen_left b ha1 h2 (hk ▸ hak)
        have wl : IntKind.i64.wrap ((len : Int) + 1) = (len1 : Int) := (IntWalk.i64_in _ (by omega)).trans (by omega)
        have HL : Hid (len1 = len + 1 ∧ gLen a r b = 1 + gLen a k b ∧ a ≤ k) := ⟨hl1, e, hak⟩
        clear hk hkl hk0 h2 ha1 har hrg hgk hlen hT hak e hl1
        go_wp2_with fail
        refine (split_any r (by have := unhide HK; omega) (by have := unhide HK; omega) wr).mono ?_; rintro x W2 ⟨rfl, rfl⟩
        rw [← (unhide HK).1]
        go_wp2_with fail
        go_roundg g
        case measure => omega
        case rel => have := unhide HK; have := unhide HL; exact ⟨a, k, len1, b, rfl, rfl, rfl, rfl, by omega, by omega, by omega, by omega, by omega, rfl⟩
      · have i1 : ¬ (a : Int) ≤ (k : Int) := by omega
        have e : gLen a r b = 1 + gLen (a - k) (r - k) false := by rw [hk]; exact gLen_right b ha1 h2 (hk ▸ hak)
        have wl : IntKind.i64.wrap ((len : Int) + 1) = (len1 : Int) := (IntWalk.i64_in _ (by omega)).trans (by omega)
        obtain ⟨rk, hrk⟩ : ∃ l, l = r - k := ⟨_, rfl⟩
        obtain ⟨ak, hak2⟩ : ∃ l, l = a - k := ⟨_, rfl⟩
        have wm : IntKind.i64.wrap ((r : Int) - (k : Int)) = (rk : Int) := (IntWalk.i64_in _ (by omega)).trans (by omega)
        have wa : IntKind.i64.wrap ((a : Int) - (k : Int)) = (ak : Int) := (IntWalk.i64_in _ (by omega)).trans (by omega)
        have HL : Hid (len1 = len + 1 ∧ gLen a r b = 1 + gLen ak rk false ∧ ¬ a ≤ k ∧ rk = r - k ∧ ak = a - k) := ⟨hl1, by rw [hrk, hak2]; exact e, hak, hrk, hak2⟩
        clear hk hkl hk0 h2 ha1 har hrg hgk hlen hT hak e hl1 hrk hak2
        go_wp2_with fail
        refine (split_any r (by have := unhide HK; omega) (by have := unhide HK; omega) wr).mono ?_; rintro x W2 ⟨rfl, rfl⟩
        rw [← (unhide HK).1]
        go_wp2_with fail
        go_roundg g
        case measure => omega
        case rel => have := unhide HK; have := unhide HL; exact ⟨ak, rk, len1, false, rfl, rfl, rfl, rfl, by omega, by omega, by omega, by omega, by omega, rfl⟩
end Go.Proofs.YtceppmajbkmbdaaDoor
