/- The law MoneyWritten returns true for all numbers and texts. (Written by wip/tools/gen_written.py.) -/
import Derived.Test.YthbdhlcimgiemaaDoorMonApp
namespace Go.Proofs.YthbdhlcimgiemaaDoor
set_option linter.unusedSimpArgs false
set_option linter.unusedVariables false
open Go.RowKit Go.LawClose

set_option maxRecDepth 100000 in
set_option maxHeartbeats 4000000 in
theorem written_any (n : Int) (s : ByteArray) (w : World) (hn0 : I64 n) (hs : s.size ≤ 140737488351232) (hE : Env w) :
    Calls Tryd.prog 8 #[.int .i64 n, .string s] w (LawOk w) := by
  have hS := sane_any w hE
  have HS := hide hS
  by_cases h : (1000 : Int) < (s.size : Int)
  · clear hS hE
    go_enter Tryd.func8, Tryd.ntmps8
    go_wp2_with fail
    refine (unhide HS).mono ?_; rintro e w1 ⟨rfl, hb1⟩
    have HB1 := hide hb1
    clear hb1
    go_wp2_with fail
    go_ret
    exact ⟨rfl, unhide HB1⟩
  have HE := hide hE
  have hs2 : s.size ≤ 1000000 := by omega
  have HP := hide (fun w1 (hB : Below w.heap.size w w1) => parse_any s w1 hs2 (hE.along hB))
  have HE := hide hE
  clear hE hS hs hs2
  by_cases hn : Am n
  · cases hp : parseR s with
    | none =>
      obtain ⟨e1, e2⟩ := parseR_none hp
      have HV := hide e1; have HEE := hide e2
      clear e1 e2 hp
      go_enter Tryd.func8, Tryd.ntmps8
      go_wp2_with fail
      refine (unhide HS).mono ?_; rintro e w1 ⟨rfl, hb1⟩
      have HB1 := hide hb1
      clear hb1
      go_wp2_with fail
      refine (text_any n w1 hn ((unhide HE).along (unhide HB1))).mono ?_; rintro e w2 ⟨rfl, hb2⟩
      have HB2 := hide (thenB (unhide HB1) hb2)
      clear hb2
      have hpt := fun W (hW : Below w.heap.size w W) => parse_any (textS n) W (textS_size hn) ((unhide HE).along hW)
      unfold ParseIs at hpt
      rw [(parseR_some ((parse_iff (textS n) n).2 ⟨hn, rfl⟩)).1, (parseR_some ((parse_iff (textS n) n).2 ⟨hn, rfl⟩)).2] at hpt
      generalize textS n = t at hpt
      have HPT := hide hpt
      clear hpt
      go_wp2_with fail
      refine (check_ok n _ hn).mono ?_; rintro e wx ⟨rfl, rfl⟩
      go_wp2_with fail
      refine ((unhide HPT) _ (unhide HB2)).mono ?_; rintro e w3 ⟨rfl, hb3⟩
      have HB3 := hide (thenB (unhide HB2) hb3)
      clear hb3
      go_wp2_with fail
      refine ((unhide HP) _ (unhide HB3)).mono ?_; rintro e w4 ⟨rfl, hb4⟩
      have HB4 := hide (thenB (unhide HB3) hb4)
      clear hb4
      rw [unhide HV, unhide HEE]
      go_wp2_with fail
      go_ret
      exact ⟨by simp, unhide HB4⟩
    | some m =>
      have hm := (parse_iff s m).1 hp
      obtain ⟨e1, e2⟩ := parseR_some hp
      have HV := hide e1; have HEE := hide e2; have HM := hide hm
      clear e1 e2 hp hm
      go_enter Tryd.func8, Tryd.ntmps8
      go_wp2_with fail
      refine (unhide HS).mono ?_; rintro e w1 ⟨rfl, hb1⟩
      have HB1 := hide hb1
      clear hb1
      go_wp2_with fail
      refine (text_any n w1 hn ((unhide HE).along (unhide HB1))).mono ?_; rintro e w2 ⟨rfl, hb2⟩
      have HB2 := hide (thenB (unhide HB1) hb2)
      clear hb2
      have hpt := fun W (hW : Below w.heap.size w W) => parse_any (textS n) W (textS_size hn) ((unhide HE).along hW)
      unfold ParseIs at hpt
      rw [(parseR_some ((parse_iff (textS n) n).2 ⟨hn, rfl⟩)).1, (parseR_some ((parse_iff (textS n) n).2 ⟨hn, rfl⟩)).2] at hpt
      generalize textS n = t at hpt
      have HPT := hide hpt
      clear hpt
      go_wp2_with fail
      refine (check_ok n _ hn).mono ?_; rintro e wx ⟨rfl, rfl⟩
      go_wp2_with fail
      refine ((unhide HPT) _ (unhide HB2)).mono ?_; rintro e w3 ⟨rfl, hb3⟩
      have HB3 := hide (thenB (unhide HB2) hb3)
      clear hb3
      go_wp2_with fail
      refine ((unhide HP) _ (unhide HB3)).mono ?_; rintro e w4 ⟨rfl, hb4⟩
      have HB4 := hide (thenB (unhide HB3) hb4)
      clear hb4
      rw [unhide HV, unhide HEE]
      go_wp2_with fail
      refine (text_any m _ (unhide HM).1 ((unhide HE).along (unhide HB4))).mono ?_; rintro e w5 ⟨rfl, hb5⟩
      have HB5 := hide (thenB (unhide HB4) hb5)
      clear hb5
      rw [(unhide HM).2]
      go_wp2_with fail
      go_ret
      exact ⟨by simp, unhide HB5⟩
  · cases hp : parseR s with
    | none =>
      obtain ⟨e1, e2⟩ := parseR_none hp
      have HV := hide e1; have HEE := hide e2
      clear e1 e2 hp
      go_enter Tryd.func8, Tryd.ntmps8
      go_wp2_with fail
      refine (unhide HS).mono ?_; rintro e w1 ⟨rfl, hb1⟩
      have HB1 := hide hb1
      clear hb1
      go_wp2_with fail
      refine (text_no n w1 hn).mono ?_; rintro e w2 ⟨rfl, rfl⟩
      go_wp2_with fail
      refine (check_no n _ hn).mono ?_; rintro e wx ⟨rfl, rfl⟩
      go_wp2_with fail
      refine (parse_any ⟨#[]⟩ _ (by decide) ((unhide HE).along (unhide HB1))).mono ?_; rintro e w3 ⟨rfl, hb3⟩
      generalize parseV ⟨#[]⟩ = pv
      generalize parseE ⟨#[]⟩ = pe
      have HB3 := hide (thenB (unhide HB1) hb3)
      clear hb3
      go_wp2_with fail
      refine ((unhide HP) _ (unhide HB3)).mono ?_; rintro e w4 ⟨rfl, hb4⟩
      have HB4 := hide (thenB (unhide HB3) hb4)
      clear hb4
      rw [unhide HV, unhide HEE]
      go_wp2_with fail
      go_ret
      exact ⟨by simp, unhide HB4⟩
    | some m =>
      have hm := (parse_iff s m).1 hp
      obtain ⟨e1, e2⟩ := parseR_some hp
      have HV := hide e1; have HEE := hide e2; have HM := hide hm
      clear e1 e2 hp hm
      go_enter Tryd.func8, Tryd.ntmps8
      go_wp2_with fail
      refine (unhide HS).mono ?_; rintro e w1 ⟨rfl, hb1⟩
      have HB1 := hide hb1
      clear hb1
      go_wp2_with fail
      refine (text_no n w1 hn).mono ?_; rintro e w2 ⟨rfl, rfl⟩
      go_wp2_with fail
      refine (check_no n _ hn).mono ?_; rintro e wx ⟨rfl, rfl⟩
      go_wp2_with fail
      refine (parse_any ⟨#[]⟩ _ (by decide) ((unhide HE).along (unhide HB1))).mono ?_; rintro e w3 ⟨rfl, hb3⟩
      generalize parseV ⟨#[]⟩ = pv
      generalize parseE ⟨#[]⟩ = pe
      have HB3 := hide (thenB (unhide HB1) hb3)
      clear hb3
      go_wp2_with fail
      refine ((unhide HP) _ (unhide HB3)).mono ?_; rintro e w4 ⟨rfl, hb4⟩
      have HB4 := hide (thenB (unhide HB3) hb4)
      clear hb4
      rw [unhide HV, unhide HEE]
      go_wp2_with fail
      refine (text_any m _ (unhide HM).1 ((unhide HE).along (unhide HB4))).mono ?_; rintro e w5 ⟨rfl, hb5⟩
      have HB5 := hide (thenB (unhide HB4) hb5)
      clear hb5
      rw [(unhide HM).2]
      go_wp2_with fail
      go_ret
      exact ⟨by simp, unhide HB5⟩
end Go.Proofs.YthbdhlcimgiemaaDoor
