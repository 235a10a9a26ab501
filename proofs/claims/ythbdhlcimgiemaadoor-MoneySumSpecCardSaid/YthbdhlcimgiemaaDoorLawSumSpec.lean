/- The law MoneySumSpec returns true for all numbers and lists. -/
import Derived.Test.YthbdhlcimgiemaaDoorMonApp
namespace Go.Proofs.YthbdhlcimgiemaaDoor
set_option linter.unusedSimpArgs false
set_option linter.unusedVariables false
open Go.RowKit Go.LawClose

set_option maxRecDepth 100000 in
set_option maxHeartbeats 2000000 in
theorem sumSpec_any (n : Int) (A : Option Addr) (c : Nat) (l : List Int) (w : World) (hI : It w A l) (hl : l.length ≤ 140737488351232) (hE : Env w) :
    Calls Tryd.prog 3 #[.int .i64 n, .slice A l.length c] w (LawOk w) := by
  have hS := sane_any w hE
  have HS := hide hS
  by_cases h : (500 : Int) < (l.length : Int)
  · clear hI hS hE
    generalize l.length = m at *
    go_enter Tryd.func3, Tryd.ntmps3
    go_wp2_with fail
    refine (unhide HS).mono ?_; rintro e w1 ⟨rfl, hb1⟩
    have HB1 := hide hb1
    clear hb1
    go_wp2_with fail
    go_ret
    exact ⟨rfl, unhide HB1⟩
  · have h1 := fun w' (hb : Below w.heap.size w w') => sum_any A c l w' (hI.keep hb) (by omega)
    have h2 := fun w' (hb : Below w.heap.size w w') => rsum_any A c l w' (hI.keep hb) (by omega)
    generalize sumV l = v at h1 h2
    generalize sumE l = e0 at h1 h2
    have H1 := hide h1
    have H2 := hide h2
    clear hI hS hE h1 h2
    generalize l.length = m at *
    by_cases hn : Am n
    · go_enter Tryd.func3, Tryd.ntmps3
      go_wp2_with fail
      refine (unhide HS).mono ?_; rintro e w1 ⟨rfl, hb1⟩
      have HB1 := hide hb1
      clear hb1
      go_wp2_with fail
      refine ((unhide H1) _ (unhide HB1)).mono ?_; rintro e wx ⟨rfl, rfl⟩
      go_wp2_with fail
      refine ((unhide H2) _ (unhide HB1)).mono ?_; rintro e wx ⟨rfl, rfl⟩
      go_wp2_with fail
      refine (check_ok n _ hn).mono ?_; rintro e wx ⟨rfl, rfl⟩
      go_wp2_with fail
      refine (rcheck_ok n _ hn).mono ?_; rintro e wx ⟨rfl, rfl⟩
      go_wp2_with fail
      go_ret
      exact ⟨by simp, unhide HB1⟩
    · go_enter Tryd.func3, Tryd.ntmps3
      go_wp2_with fail
      refine (unhide HS).mono ?_; rintro e w1 ⟨rfl, hb1⟩
      have HB1 := hide hb1
      clear hb1
      go_wp2_with fail
      refine ((unhide H1) _ (unhide HB1)).mono ?_; rintro e wx ⟨rfl, rfl⟩
      go_wp2_with fail
      refine ((unhide H2) _ (unhide HB1)).mono ?_; rintro e wx ⟨rfl, rfl⟩
      go_wp2_with fail
      refine (check_no n _ hn).mono ?_; rintro e wx ⟨rfl, rfl⟩
      go_wp2_with fail
      refine (rcheck_no n _ hn).mono ?_; rintro e wx ⟨rfl, rfl⟩
      go_wp2_with fail
      go_ret
      exact ⟨by simp, unhide HB1⟩
end Go.Proofs.YthbdhlcimgiemaaDoor
