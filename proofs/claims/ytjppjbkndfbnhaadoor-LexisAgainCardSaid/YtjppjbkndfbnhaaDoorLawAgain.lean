/- The law LexisAgain returns true for all texts. -/
import Derived.Test.YtjppjbkndfbnhaaDoorLexBk
namespace Go.Proofs.YtjppjbkndfbnhaaDoor
set_option linter.unusedSimpArgs false
set_option linter.unusedVariables false
open Go.RowKit Go.LawClose

set_option maxRecDepth 100000 in
set_option maxHeartbeats 4000000 in
theorem again_any (A : Option Addr) (c : Nat) (s : ByteArray) (w : World) (hc : s.size ≤ c) (hA : A = none → c = 0) (hs : s.size ≤ 140737488351232) (hS : Src w A s) (hT : Tab w) :
    Calls Tryd.prog 7 #[.slice A s.size c] w (LawOk w) := by
  have HSA := hide (sane_any w hT)
  obtain ⟨n, hn⟩ : ∃ n, s.size = n := ⟨_, rfl⟩
  rw [hn] at hc hs ⊢
  by_cases h3 : 3000 < n
  · have h' : (3000 : Int) < (n : Int) := by omega
    clear hT hS hn
    go_enter Tryd.func7, Tryd.ntmps7
    go_wp2_with fail
    refine (unhide HSA).mono ?_; rintro e w1 ⟨rfl, hb1⟩
    have HB1 := hide hb1
    clear hb1
    go_wp2_with fail
    go_ret
    exact ⟨rfl, unhide HB1⟩
  have h' : ¬ (3000 : Int) < (n : Int) := by omega
  have htk := fun W (hB : Below w.heap.size w W) => tokens_src A n c s W hn (by omega) (hS.keep hB) (hT.keep hB)
  obtain ⟨b, hj, hwg⟩ := again_math (L s)
  rw [L_len, hn] at hwg
  obtain ⟨m1, m2, m3, m4, m5⟩ := back_math hj
  have HT := hide hT
  have HTK := hide htk; have HJ := hide hj; have HM1 := hide m1; have HM2 := hide m2; have HWG := hide hwg
  have HM5 : Hid (b.length ≤ 60000) := by show b.length ≤ 60000; omega
  clear htk hj m1 m2 m3 m4 m5 hwg hT hS hn
  go_enter Tryd.func7, Tryd.ntmps7
  go_wp2_with fail
  refine (unhide HSA).mono ?_; rintro e w1 ⟨rfl, hb1⟩
  have HB1 := hide hb1
  clear hb1
  go_wp2_with fail
  refine ((unhide HTK) _ (unhide HB1)).mono ?_; rintro e w2 ⟨A2, c2, B2, d2, rfl, hA2, hc2, _, _, hb2⟩
  have HB2 := hide (thenB (unhide HB1) hb2)
  obtain ⟨n2, hn2⟩ : ∃ n2, (Lx.toks (L s)).1.length = n2 := ⟨_, rfl⟩
  have hj2 := join_any A2 c2 n2 (Lx.toks (L s)).1 w2 hn2 hA2 ((unhide HT).keep (unhide HB2)) (by have := unhide HWG; omega) (by omega)
  unfold JoinIs at hj2
  rw [unhide HJ] at hj2
  rw [hn2]
  generalize (Lx.toks (L s)).2.length = nb2
  have HJ2 := hide hj2; have HA2 := hide hA2; have HN2 := hide hn2
  clear hb2 hA2 hc2 hj2 hn2
  go_wp2_with fail
  refine (unhide HJ2).mono ?_; rintro e w3 ⟨hb3, v, rfl, ho⟩
  have HB3 := hide (thenB (unhide HB2) hb3)
  have HA3 := hide ((unhide HA2).keep hb3)
  obtain ⟨A3, c3, rfl, hsrc, hbc⟩ := own_src ho
  obtain ⟨nb, hnb⟩ : ∃ nb, b.length = nb := ⟨_, rfl⟩
  have htk3 := tokens_src A3 nb c3 ⟨b.toArray⟩ w3 (by show b.toArray.size = nb; simpa using hnb) (by have := unhide HM5; omega) hsrc ((unhide HT).keep (unhide HB3))
  rw [L_mk, unhide HM2] at htk3
  rw [hnb]
  have HTK3 := hide htk3
  clear hb3 ho hsrc htk3 hbc hnb
  go_wp2_with fail
  refine (unhide HTK3).mono ?_; rintro e w4 ⟨A4, c4, B4, d4, rfl, hA4, hc4, _, _, hb4⟩
  have HB4 := hide (thenB (unhide HB3) hb4)
  have hal := alike_eq A2 A4 c2 c4 n2 (Lx.toks (L s)).1 (Lx.toks b).1 w4 (unhide HN2) (unhide HM1) ((unhide HA3).keep hb4) hA4 (by have := unhide HN2; have := Lx.wgt_len (Lx.toks (L s)).1; have := unhide HWG; omega)
  have e24 : (Lx.toks b).1.length = n2 := by have := (unhide HM1).len; have := unhide HN2; omega
  have HAL := hide hal
  rw [e24]
  clear hb4 hA4 hc4 hal e24
  go_wp2_with fail
  refine (unhide HAL).mono ?_; rintro e w5 ⟨rfl, hb5⟩
  have HB5 := hide (thenB (unhide HB4) hb5)
  clear hb5
  go_wp2_with fail
  go_ret
  exact ⟨by simp, unhide HB5⟩
end Go.Proofs.YtjppjbkndfbnhaaDoor
