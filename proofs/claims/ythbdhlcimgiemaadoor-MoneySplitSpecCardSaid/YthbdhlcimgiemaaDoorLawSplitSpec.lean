/- The law MoneySplitSpec returns true for all amounts, weights and numbers. -/
import Derived.Test.YthbdhlcimgiemaaDoorMonRSplit2
namespace Go.Proofs.YthbdhlcimgiemaaDoor
set_option linter.unusedSimpArgs false
set_option linter.unusedVariables false
open Go.RowKit Go.LawClose

theorem splitV_all64 (a : Int) (ws : List Int) : (∀ x ∈ splitV a ws, I64 x) ∧ (splitV a ws).length ≤ ws.length := by
  by_cases ha : Am a
  · by_cases hW : Wok ws
    · obtain ⟨h1, _, h3⟩ := splitV_at' ha hW
      exact ⟨h3, by omega⟩
    · unfold splitV
      rw [if_pos ha, if_neg hW]
      exact ⟨(fun x hx => by cases hx), Nat.zero_le _⟩
  · unfold splitV
    rw [if_neg ha]
    exact ⟨(fun x hx => by cases hx), Nat.zero_le _⟩
set_option maxRecDepth 100000 in
set_option maxHeartbeats 4000000 in
theorem splitSpec_any (a : Int) (A : Option Addr) (c : Nat) (l : List Int) (p : Int) (w : World) (ha : I64 a) (hp : I64 p) (hI : It w A l) (hl : l.length ≤ 140737488351232) (hE : Env w) :
    Calls Tryd.prog 4 #[.int .i64 a, .slice A l.length c, .int .i64 p] w (LawOk w) := by
  have hS := sane_any w hE
  have HS := hide hS
  by_cases h : (300 : Int) < (l.length : Int)
  · clear hI hS hE
    generalize l.length = n at *
    go_enter Tryd.func4, Tryd.ntmps4
    go_wp2_with fail
    refine (unhide HS).mono ?_; rintro e w1 ⟨rfl, hb1⟩
    have HB1 := hide hb1
    clear hb1
    go_wp2_with fail
    go_ret
    exact ⟨rfl, unhide HB1⟩
  have hs1 := fun W (hB : Below w.heap.size w W) => split_any A c a l W (hI.keep hB) (by omega)
  have hs2 := fun W (hB : Below w.heap.size w W) => rsplit_any A c a l W (hI.keep hB) (by omega)
  obtain ⟨h64, hxl⟩ := splitV_all64 a l
  have hxl2 : (splitV a l).length ≤ 1000000 := by omega
  unfold SplitIs at hs1
  unfold RSplitIs at hs2
  have hp1 := fun W => part_any a p W
  have hp2 := fun W => rpart_any a p W
  generalize splitV a l = X at *
  generalize splitE a l = E at *
  generalize partV a p = pv at *
  generalize partE a p = pe at *
  generalize l.length = n at *
  have HS1 := hide hs1; have HS2 := hide hs2; have HP1 := hide hp1; have HP2 := hide hp2; have H64 := hide h64; have HXL := hide hxl2
  clear hs1 hs2 hp1 hp2 h64 hxl hxl2 hI hS hE
  go_enter Tryd.func4, Tryd.ntmps4
  go_wp2_with fail
  refine (unhide HS).mono ?_; rintro e w1 ⟨rfl, hb1⟩
  have HB1 := hide hb1
  clear hb1
  go_wp2_with fail
  refine ((unhide HS1) _ (unhide HB1)).mono ?_; rintro e w2 ⟨v2, rfl, hO2, hb2⟩
  obtain ⟨A3, c3, rfl, hI3, _, _⟩ := own_it hO2 (unhide H64)
  have HI3 := hide hI3
  have HB2 := hide (thenB (unhide HB1) hb2)
  obtain ⟨q, hq⟩ : ∃ q, q = X.length := ⟨_, rfl⟩
  rw [← hq]
  have HQ := hide hq
  clear hO2 hI3 hb2 hq
  go_wp2_with fail
  refine ((unhide HS2) _ (unhide HB2)).mono ?_; rintro e w3 ⟨A4, c4, rfl, hI4, hb3⟩
  rw [← unhide HQ]
  have HI33 := hide ((unhide HI3).keep hb3)
  have HI4 := hide hI4
  have HB3 := hide (thenB (unhide HB2) hb3)
  clear hI4 hb3
  go_wp2_with fail
  refine ((unhide HP1) _).mono ?_; rintro e wx ⟨rfl, rfl⟩
  go_wp2_with fail
  refine ((unhide HP2) _).mono ?_; rintro e wx ⟨rfl, rfl⟩
  have hsame := same_eq A3 A4 c3 c4 X wx (unhide HI33) (unhide HI4) (unhide HXL)
  rw [← unhide HQ] at hsame
  have HSAME := hide hsame
  clear hsame
  go_wp2_with fail
  refine (unhide HSAME).mono ?_; rintro e w5 ⟨rfl, hb5⟩
  have HB5 := hide (thenB (unhide HB3) hb5)
  clear hb5
  go_wp2_with fail
  go_ret
  exact ⟨by simp, unhide HB5⟩
end Go.Proofs.YthbdhlcimgiemaaDoor
