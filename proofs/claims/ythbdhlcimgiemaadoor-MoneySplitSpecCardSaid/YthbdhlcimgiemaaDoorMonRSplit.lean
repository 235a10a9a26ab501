/- Contracts over the program of money: the reference's Split, where it refuses. -/
import Derived.Test.YthbdhlcimgiemaaDoorMonExact
namespace Go.Proofs.YthbdhlcimgiemaaDoor
set_option linter.unusedSimpArgs false
set_option linter.unusedVariables false
open Go.RowKit

/-- how the reference's Split ends -/
def RSplitIs (a : Int) (ws : List Int) (w : World) (e : Ending) (w' : World) : Prop :=
  ∃ A c, e = .returned (.tuple #[.slice A (splitV a ws).length c, .int .i64 (splitE a ws)]) ∧ It w' A (splitV a ws) ∧ Below w.heap.size w w'
theorem rret (A : Option Addr) (n c : Nat) (x : Int) : Ending.returned (.tuple #[.slice A n c, .int .i64 x]) = .returned (.tuple #[.slice A n c, .int .i64 x]) := rfl
theorem rsplit_no (A : Option Addr) (c : Nat) (a : Int) (ws : List Int) (w : World) (h : ¬ Am a) :
    Calls Tryd.prog 16 #[.int .i64 a, .slice A ws.length c] w (RSplitIs a ws w) := by
  have e1 : splitV a ws = [] := by unfold splitV; rw [if_neg h]
  have e2 : splitE a ws = 50 := by unfold splitE; rw [if_neg h]
  unfold RSplitIs
  rw [e1, e2, show ([] : List Int).length = 0 from rfl]
  generalize ws.length = n
  go_enter Tryd.func16, Tryd.ntmps16
  go_wp2_with fail
  refine (rcheck_no a _ h).mono ?_; rintro e w' ⟨rfl, rfl⟩
  go_wp2_with fail
  go_ret2
  exact ⟨none, 0, rfl, It.nil, Below.refl _ _⟩

set_option maxRecDepth 100000 in
set_option maxHeartbeats 2000000 in
theorem rsplit_bad0 (A : Option Addr) (c : Nat) (a : Int) (ws : List Int) (w : World) (h : Am a) (hI : It w A ws) (hW : ¬ Wok ws) (hl : ws.length ≤ 1000) :
    Calls Tryd.prog 16 #[.int .i64 a, .slice A ws.length c] w fun e w' => e = .returned (.tuple #[.slice none 0 0, .int .i64 1]) ∧ w' = w := by
  obtain ⟨n, hn⟩ : ∃ n, n = ws.length := ⟨_, rfl⟩
  rw [← hn] at hl ⊢
  have HN := hide hn
  have HI := hide hI
  have HW := hide hW
  clear hn hI hW
  go_enter Tryd.func16, Tryd.ntmps16
  go_wp2_with fail
  refine (rcheck_ok a _ h).mono ?_; rintro e w' ⟨rfl, rfl⟩
  go_wp2_with fail
  go_loop [6, 7] (fun s i => ∃ (k : Nat) (m : Int), k ≤ n ∧ 0 ≤ m ∧ m ≤ 1000 * k ∧ tot ws = m + tot (ws.drop k) ∧ (∀ x ∈ ws.take k, 0 ≤ x ∧ x ≤ 1000) ∧ s = .int .i64 m ∧ i = .int .i64 (k : Int)) (fun _ i => n - (intOf i).toNat)
  case atStart => exact ⟨0, 0, Nat.zero_le _, by decide, by decide, by rw [List.drop_zero]; omega, fun x hx => by simp at hx, rfl, rfl⟩
  case round =>
    obtain ⟨k, m, hk, hm1, hm2, hs, hw, rfl, rfl⟩ := hrel
    have HS := hide hs
    have HWT := hide hw
    clear hs hw
    by_cases hlt : k < n
    · have hkl : k < ws.length := (unhide HN) ▸ hlt
      obtain ⟨b, o, rfl, hc⟩ := (unhide HI).at_ (List.ne_nil_of_length_pos (Nat.lt_of_le_of_lt (Nat.zero_le _) hkl))
      have hck := hc k hkl
      have hd := drop_at ws k hkl
      have hts : ws.take (k + 1) = ws.take k ++ [ws.getD k 0] := by
        rw [List.take_succ_eq_append_getElem hkl, List.getD_eq_getElem?_getD, List.getElem?_eq_getElem hkl]
        rfl
      generalize ws.getD k 0 = x at hck hd hts
      have HD := hide hd
      have HTS := hide hts
      clear hc hd hkl hts
      by_cases hx0 : x < 0
      · go_wp2_with fail
        go_ret2
        exact ⟨rfl, rfl⟩
      · by_cases hx1 : 1000 < x
        · go_wp2_with fail
          go_ret2
          exact ⟨rfl, rfl⟩
        · have hw : IntKind.i64.wrap (m + x) = m + x := IntWalk.i64_in _ (by omega)
          go_wp2_with fail
          go_round
          case rel =>
            refine ⟨k + 1, m + x, by omega, by omega, by omega, by rw [unhide HS, unhide HD, tot]; omega, fun y hy => ?_, rfl, by go_num⟩
            rw [unhide HTS] at hy
            rcases List.mem_append.1 hy with hy | hy
            · exact unhide HWT y hy
            · rw [List.mem_singleton.1 hy]; exact ⟨by omega, by omega⟩
          case measure => simp [intOf]; omega
    · have hkn := unhide HN
      have hwt := unhide HWT
      rw [List.take_of_length_le (by omega)] at hwt
      have e : tot ws = m := by rw [unhide HS, List.drop_of_length_le (by omega)]; simp [tot]
      have hno : n < 1 ∨ 256 < n ∨ m = 0 := by
        rcases Nat.lt_or_ge n 1 with h1 | h1
        · exact .inl h1
        · rcases Nat.lt_or_ge 256 n with h2 | h2
          · exact .inr (.inl h2)
          · right; right
            rcases Int.lt_or_le 0 m with h3 | h3
            · exact absurd (show Wok ws from ⟨by omega, by omega, hwt, by omega⟩) (unhide HW)
            · omega
      clear hkn hwt e HS HWT HN HI HW
      by_cases h1 : (n : Int) < 1
      · go_wp2_with fail
        go_ret2
        exact ⟨rfl, rfl⟩
      · by_cases h2 : (256 : Int) < (n : Int)
        · go_wp2_with fail
          go_ret2
          exact ⟨rfl, rfl⟩
        · have h3 : m = 0 := by omega
          subst h3
          go_wp2_with fail
          go_ret2
          exact ⟨rfl, rfl⟩
theorem rsplit_bad (A : Option Addr) (c : Nat) (a : Int) (ws : List Int) (w : World) (h : Am a) (hI : It w A ws) (hW : ¬ Wok ws) (hl : ws.length ≤ 1000) :
    Calls Tryd.prog 16 #[.int .i64 a, .slice A ws.length c] w (RSplitIs a ws w) := by
  have e1 : splitV a ws = [] := by unfold splitV; rw [if_pos h, if_neg hW]
  have e2 : splitE a ws = 1 := by unfold splitE; rw [if_pos h, if_neg hW]
  refine (rsplit_bad0 A c a ws w h hI hW hl).mono fun e w' ⟨he, hw⟩ => ?_
  unfold RSplitIs
  rw [e1, e2, hw]
  exact ⟨none, 0, he, It.nil, Below.refl _ _⟩
end Go.Proofs.YthbdhlcimgiemaaDoor
