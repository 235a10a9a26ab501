/- The law LexisPlaceSpec returns true for all texts and offsets. -/
import Derived.Test.YtjppjbkndfbnhaaDoorLexSane
import Derived.Test.YtjppjbkndfbnhaaDoorClose
namespace Go.Proofs.YtjppjbkndfbnhaaDoor
set_option linter.unusedSimpArgs false
set_option linter.unusedVariables false
open Go.RowKit Go.LawClose

set_option maxRecDepth 100000 in
set_option maxHeartbeats 4000000 in
theorem placeSpec_any (A : Option Addr) (c : Nat) (s : ByteArray) (a : Int) (w : World) (hc : s.size ≤ c) (hA : A = none → c = 0) (hs : s.size ≤ 140737488351232) (hS : Src w A s) (ha : -9223372036854775808 ≤ a ∧ a ≤ 9223372036854775807) (hT : Tab w) :
    Calls Tryd.prog 5 #[.slice A s.size c, .int .i64 a] w (LawOk w) := by
  have HSA := hide (sane_any w hT)
  obtain ⟨n, hn⟩ : ∃ n, s.size = n := ⟨_, rfl⟩
  rw [hn] at hc hs ⊢
  by_cases h1 : 3000 < n ∧ n ≤ 65536
  · have h' : (3000 : Int) < (n : Int) := by omega
    have h'' : (n : Int) ≤ 65536 := by omega
    clear hT hS
    go_enter Tryd.func5, Tryd.ntmps5
    go_wp2_with fail
    refine (unhide HSA).mono ?_; rintro e w1 ⟨rfl, hb1⟩
    have HB1 := hide hb1
    clear hb1
    go_wp2_with fail
    go_ret
    exact ⟨rfl, unhide HB1⟩
  by_cases h2 : 70000 < n
  · have h0 : (3000 : Int) < (n : Int) := by omega
    have h' : ¬ (n : Int) ≤ 65536 := by omega
    have h'' : (70000 : Int) < (n : Int) := by omega
    clear hT hS
    go_enter Tryd.func5, Tryd.ntmps5
    go_wp2_with fail
    refine (unhide HSA).mono ?_; rintro e w1 ⟨rfl, hb1⟩
    have HB1 := hide hb1
    clear hb1
    go_wp2_with fail
    go_ret
    exact ⟨rfl, unhide HB1⟩
  have h7 : ¬ (70000 : Int) < (n : Int) := by omega
  obtain ⟨x, hx1, hx2⟩ : ∃ x : Int × Int × Int, (∀ W, Below w.heap.size w W → Calls Tryd.prog 21 #[.slice A n c, .int .i64 a] W (PlaceIs x W)) ∧ (∀ W, Below w.heap.size w W → Calls Tryd.prog 22 #[.slice A n c, .int .i64 a] W (PlaceIs x W)) := by
    by_cases h3 : 65536 < n
    · exact ⟨_, fun W _ => place_no A n c a W h3, fun W _ => rplace_no A n c a W h3⟩
    · exact ⟨_, fun W hB => place_yes A n c s a W hn (by omega) (hS.keep hB) hA hc, fun W hB => rplace_yes A n c s a W hn (by omega) (hS.keep hB)⟩
  have HX1 := hide hx1; have HX2 := hide hx2
  obtain ⟨x1, x2, x3⟩ := x
  clear hx1 hx2 hS hT
  by_cases h3 : 3000 < n
  · have h0 : (3000 : Int) < (n : Int) := by omega
    have h' : ¬ (n : Int) ≤ 65536 := by omega
    go_enter Tryd.func5, Tryd.ntmps5
    go_wp2_with fail
    refine (unhide HSA).mono ?_; rintro e w1 ⟨rfl, hb1⟩
    have HB1 := hide hb1
    clear hb1
    go_wp2_with fail
    refine ((unhide HX1) _ (unhide HB1)).mono ?_; rintro e w2 ⟨rfl, hb2⟩
    have HB2 := hide (thenB (unhide HB1) hb2)
    clear hb2
    go_wp2_with fail
    refine ((unhide HX2) _ (unhide HB2)).mono ?_; rintro e w3 ⟨rfl, hb3⟩
    have HB3 := hide (thenB (unhide HB2) hb3)
    clear hb3
    simp only
    go_wp2_with fail
    go_ret
    exact ⟨by simp, unhide HB3⟩
  · have h0 : ¬ (3000 : Int) < (n : Int) := by omega
    go_enter Tryd.func5, Tryd.ntmps5
    go_wp2_with fail
    refine (unhide HSA).mono ?_; rintro e w1 ⟨rfl, hb1⟩
    have HB1 := hide hb1
    clear hb1
    go_wp2_with fail
    refine ((unhide HX1) _ (unhide HB1)).mono ?_; rintro e w2 ⟨rfl, hb2⟩
    have HB2 := hide (thenB (unhide HB1) hb2)
    clear hb2
    go_wp2_with fail
    refine ((unhide HX2) _ (unhide HB2)).mono ?_; rintro e w3 ⟨rfl, hb3⟩
    have HB3 := hide (thenB (unhide HB2) hb3)
    clear hb3
    simp only
    go_wp2_with fail
    go_ret
    exact ⟨by simp, unhide HB3⟩
end Go.Proofs.YtjppjbkndfbnhaaDoor
