/- The law LexisPlaces returns true for all texts and offsets. -/
import Derived.Test.YtjppjbkndfbnhaaDoorLexSane
import Derived.Test.YtjppjbkndfbnhaaDoorClose
namespace Go.Proofs.YtjppjbkndfbnhaaDoor
set_option linter.unusedSimpArgs false
set_option linter.unusedVariables false
open Go.RowKit Go.LawClose

set_option maxRecDepth 100000 in
set_option maxHeartbeats 4000000 in
theorem places_any (A : Option Addr) (c : Nat) (s : ByteArray) (a : Int) (w : World) (hc : s.size ≤ c) (hA : A = none → c = 0) (hs : s.size ≤ 140737488351232) (hS : Src w A s) (ha : -9223372036854775808 ≤ a ∧ a ≤ 9223372036854775807) (hT : Tab w) :
    Calls Tryd.prog 10 #[.slice A s.size c, .int .i64 a] w (LawOk w) := by
  have HSA := hide (sane_any w hT)
  obtain ⟨n, hn⟩ : ∃ n, s.size = n := ⟨_, rfl⟩
  rw [hn] at hc hs ⊢
  by_cases h1 : 3000 < n ∨ a < 0 ∨ (n : Int) ≤ a
  · clear hT hS
    rcases h1 with h | h | h
    · have h' : (3000 : Int) < (n : Int) := by omega
      go_enter Tryd.func10, Tryd.ntmps10
      go_wp2_with fail
      refine (unhide HSA).mono ?_; rintro e w1 ⟨rfl, hb1⟩
      have HB1 := hide hb1
      clear hb1
      go_wp2_with fail
      go_ret
      exact ⟨rfl, unhide HB1⟩
    · by_cases h3 : 3000 < n
      · have h' : (3000 : Int) < (n : Int) := by omega
        go_enter Tryd.func10, Tryd.ntmps10
        go_wp2_with fail
        refine (unhide HSA).mono ?_; rintro e w1 ⟨rfl, hb1⟩
        have HB1 := hide hb1
        clear hb1
        go_wp2_with fail
        go_ret
        exact ⟨rfl, unhide HB1⟩
      · have h' : ¬ (3000 : Int) < (n : Int) := by omega
        go_enter Tryd.func10, Tryd.ntmps10
        go_wp2_with fail
        refine (unhide HSA).mono ?_; rintro e w1 ⟨rfl, hb1⟩
        have HB1 := hide hb1
        clear hb1
        go_wp2_with fail
        go_ret
        exact ⟨rfl, unhide HB1⟩
    · by_cases h3 : 3000 < n
      · have h' : (3000 : Int) < (n : Int) := by omega
        go_enter Tryd.func10, Tryd.ntmps10
        go_wp2_with fail
        refine (unhide HSA).mono ?_; rintro e w1 ⟨rfl, hb1⟩
        have HB1 := hide hb1
        clear hb1
        go_wp2_with fail
        go_ret
        exact ⟨rfl, unhide HB1⟩
      · have h' : ¬ (3000 : Int) < (n : Int) := by omega
        have h0 : ¬ a < 0 := by omega
        go_enter Tryd.func10, Tryd.ntmps10
        go_wp2_with fail
        refine (unhide HSA).mono ?_; rintro e w1 ⟨rfl, hb1⟩
        have HB1 := hide hb1
        clear hb1
        go_wp2_with fail
        go_ret
        exact ⟨rfl, unhide HB1⟩
  · have h3 : ¬ (3000 : Int) < (n : Int) := by omega
    have h4 : ¬ a < 0 := by omega
    have h5 : ¬ (n : Int) ≤ a := by omega
    obtain ⟨m, rfl⟩ : ∃ m : Nat, a = (m : Int) := ⟨a.toNat, by omega⟩
    have hmn : m < n := by omega
    have hms : m < s.size := by omega
    obtain ⟨b, o, rfl, hlt, hcl⟩ := hS.cell (by omega)
    have hp1 := fun W (hB : Below w.heap.size w W) => place_yes (some ⟨b, o, none⟩) n c s (m : Int) W hn (by omega) (hS.keep hB) hA (by omega)
    have hp2 := fun W (hB : Below w.heap.size w W) => place_yes (some ⟨b, o, none⟩) n c s ((m : Int) + 1) W hn (by omega) (hS.keep hB) hA (by omega)
    have ht := L_take' s m hms
    have v1 : placeV (L s) (m : Int) = ((lnP ((L s).take m) : Int) + 1, (clP ((L s).take m) : Int) + 1, 0) := by
      unfold placeV; rw [if_neg (by rw [L_len]; omega), Int.toNat_natCast]
    have v2 : placeV (L s) ((m : Int) + 1) = ((lnP ((L s).take (m + 1)) : Int) + 1, (clP ((L s).take (m + 1)) : Int) + 1, 0) := by
      unfold placeV; rw [if_neg (by rw [L_len]; omega), show ((m : Int) + 1).toNat = m + 1 by omega]
    rw [v1] at hp1
    rw [v2] at hp2
    have HCL := hide (fun W (hB : Below w.heap.size w W) => (hB.cell (p := ⟨b, o + m, none⟩) hlt).trans (hcl m hms))
    have hl1 := lnP_le ((L s).take m)
    have hl2 := clP_le ((L s).take m)
    have hl3 : ((L s).take m).length ≤ m := List.length_take_le _ _
    have HP1 := hide hp1
    have hm0 : (0 : Int) ≤ (m : Int) := Int.natCast_nonneg _
    by_cases h10 : s[m] = 10
    · rw [ht, h10, lnP_ten, clP_ten] at hp2
      have HP2 := hide hp2
      have b10 : ((s[m].toNat : Int) == 10) = true := by rw [h10]; rfl
      generalize lnP ((L s).take m) = p at HP1 HP2 hl1
      generalize clP ((L s).take m) = q at HP1 hl2
      clear hp1 hp2 v1 v2 ht hcl hS hT h10 h1
      go_enter Tryd.func10, Tryd.ntmps10
      go_wp2_with fail
      refine (unhide HSA).mono ?_; rintro e w1 ⟨rfl, hb1⟩
      have HB1 := hide hb1
      clear hb1
      go_wp2_with fail
      refine ((unhide HP1) _ (unhide HB1)).mono ?_; rintro e w2 ⟨rfl, hb2⟩
      have HB2 := hide (thenB (unhide HB1) hb2)
      clear hb2
      go_wp2_with fail
      refine ((unhide HP2) _ (unhide HB2)).mono ?_; rintro e w3 ⟨rfl, hb3⟩
      have HB3 := hide (thenB (unhide HB2) hb3)
      clear hb3
      have hcm := (unhide HCL) _ (unhide HB3)
      simp only
      go_wp2_with fail
      go_ret
      exact ⟨by simp, unhide HB3⟩
    · rw [ht, lnP_snoc h10, clP_snoc h10] at hp2
      have HP2 := hide hp2
      have b10 : ((s[m].toNat : Int) == 10) = false := by
        rw [beq_eq_false_iff_ne]; intro e; exact h10 ((Lx.eq_byte (n := 10) (by decide)).2 (by omega))
      generalize lnP ((L s).take m) = p at HP1 HP2 hl1
      generalize clP ((L s).take m) = q at HP1 HP2 hl2
      clear hp1 hp2 v1 v2 ht hcl hS hT h10 h1
      go_enter Tryd.func10, Tryd.ntmps10
      go_wp2_with fail
      refine (unhide HSA).mono ?_; rintro e w1 ⟨rfl, hb1⟩
      have HB1 := hide hb1
      clear hb1
      go_wp2_with fail
      refine ((unhide HP1) _ (unhide HB1)).mono ?_; rintro e w2 ⟨rfl, hb2⟩
      have HB2 := hide (thenB (unhide HB1) hb2)
      clear hb2
      go_wp2_with fail
      refine ((unhide HP2) _ (unhide HB2)).mono ?_; rintro e w3 ⟨rfl, hb3⟩
      have HB3 := hide (thenB (unhide HB2) hb3)
      clear hb3
      have hcm := (unhide HCL) _ (unhide HB3)
      simp only
      go_wp2_with fail
      go_ret
      exact ⟨by simp, unhide HB3⟩
end Go.Proofs.YtjppjbkndfbnhaaDoor
