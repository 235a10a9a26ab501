/- The law MoneyTextSpec returns true for all numbers and texts. -/
import Derived.Test.YthbdhlcimgiemaaDoorMonRParse
import Derived.Test.YthbdhlcimgiemaaDoorMonApp
namespace Go.Proofs.YthbdhlcimgiemaaDoor
set_option linter.unusedSimpArgs false
set_option linter.unusedVariables false
open Go.RowKit Go.LawClose

set_option maxRecDepth 100000 in
set_option maxHeartbeats 4000000 in
theorem textSpec_any (n : Int) (s : ByteArray) (w : World) (hn0 : I64 n) (hs : s.size ≤ 140737488351232) (hE : Env w) :
    Calls Tryd.prog 5 #[.int .i64 n, .string s] w (LawOk w) := by
  have hS := sane_any w hE
  have HS := hide hS
  by_cases h : (1000 : Int) < (s.size : Int)
  · clear hS hE
    go_enter Tryd.func5, Tryd.ntmps5
    go_wp2_with fail
    refine (unhide HS).mono ?_; rintro e w1 ⟨rfl, hb1⟩
    have HB1 := hide hb1
    clear hb1
    go_wp2_with fail
    go_ret
    exact ⟨rfl, unhide HB1⟩
  have hs2 : s.size ≤ 1000000 := by omega
  have HP := hide (fun w1 (hB : Below w.heap.size w w1) => parse_any s w1 hs2 (hE.along hB))
  have HR := hide (fun w1 => rparse_any s w1 hs2)
  have HE := hide hE
  clear hE hS hs hs2
  by_cases hn : Am n
  · go_enter Tryd.func5, Tryd.ntmps5
    go_wp2_with fail
    refine (unhide HS).mono ?_; rintro e w1 ⟨rfl, hb1⟩
    have HB1 := hide hb1
    clear hb1
    go_wp2_with fail
    refine (text_any n w1 hn ((unhide HE).along (unhide HB1))).mono ?_; rintro e w2 ⟨rfl, hb2⟩
    have HB2 := hide (thenB (unhide HB1) hb2)
    have hrt := fun W => rtext_any n W hn
    unfold RTextIs at hrt
    generalize textS n = t at hrt
    have HRT := hide hrt
    clear hb2 hrt
    go_wp2_with fail
    refine ((unhide HRT) w2).mono ?_; rintro e wx ⟨rfl, rfl⟩
    go_wp2_with fail
    refine ((unhide HP) _ (unhide HB2)).mono ?_; rintro e w3 ⟨rfl, hb3⟩
    have HB3 := hide (thenB (unhide HB2) hb3)
    clear hb3
    go_wp2_with fail
    refine ((unhide HR) _).mono ?_; rintro e wx ⟨rfl, rfl⟩
    generalize parseV s = pv
    generalize parseE s = pe
    go_wp2_with fail
    go_ret
    exact ⟨by simp, unhide HB3⟩
  · go_enter Tryd.func5, Tryd.ntmps5
    go_wp2_with fail
    refine (unhide HS).mono ?_; rintro e w1 ⟨rfl, hb1⟩
    have HB1 := hide hb1
    clear hb1
    go_wp2_with fail
    refine (text_no n w1 hn).mono ?_; rintro e w2 ⟨rfl, rfl⟩
    go_wp2_with fail
    refine (rtext_no n _ hn).mono ?_; rintro e wx ⟨rfl, rfl⟩
    go_wp2_with fail
    refine ((unhide HP) _ (unhide HB1)).mono ?_; rintro e w3 ⟨rfl, hb3⟩
    have HB3 := hide (thenB (unhide HB1) hb3)
    clear hb3
    go_wp2_with fail
    refine ((unhide HR) _).mono ?_; rintro e wx ⟨rfl, rfl⟩
    generalize parseV s = pv
    generalize parseE s = pe
    go_wp2_with fail
    go_ret
    exact ⟨by simp, unhide HB3⟩
end Go.Proofs.YthbdhlcimgiemaaDoor
