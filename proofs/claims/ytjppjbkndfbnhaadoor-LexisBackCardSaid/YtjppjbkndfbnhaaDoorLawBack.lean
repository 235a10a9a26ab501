/- The law LexisBack returns true for all lists of tokens. -/
import Derived.Test.YtjppjbkndfbnhaaDoorLexBk
namespace Go.Proofs.YtjppjbkndfbnhaaDoor
set_option linter.unusedSimpArgs false
set_option linter.unusedVariables false
open Go.RowKit Go.LawClose

set_option maxRecDepth 100000 in
set_option maxHeartbeats 4000000 in
theorem back_any (A : Option Addr) (c : Nat) (l : List Lx.Tk) (w : World) (hc : l.length ≤ c) (hl : l.length ≤ 140737488351232) (hA : TkAt w A l) (hs : ∀ t ∈ l, t.t.size ≤ 140737488351232) (hT : Tab w) :
    Calls Tryd.prog 6 #[.slice A l.length c] w (LawOk w) := by
  have HSA := hide (sane_any w hT)
  obtain ⟨n, hn⟩ : ∃ n, l.length = n := ⟨_, rfl⟩
  rw [hn] at hc hl ⊢
  have hfew := fun W (hB : Below w.heap.size w W) => few_any A c n l W hn (hA.keep hB) hl hs
  by_cases hw : Lx.wgt l ≤ 3000
  · rw [decide_eq_true hw] at hfew
    have HF := hide hfew
    have hjo := fun W (hB : Below w.heap.size w W) => join_any A c n l W hn (hA.keep hB) (hT.keep hB) (by omega) hc
    have HT := hide hT
    have HA := hide hA
    have hn6 : n ≤ 3000 := by have := Lx.wgt_len l; omega
    have HN := hide hn
    cases hj : Lx.joinR l with
    | none =>
      unfold JoinIs at hjo
      rw [hj] at hjo
      have HJ := hide hjo
      clear hjo hj hfew hT hA hs hn
      go_enter Tryd.func6, Tryd.ntmps6
      go_wp2_with fail
      refine (unhide HSA).mono ?_; rintro e w1 ⟨rfl, hb1⟩
      have HB1 := hide hb1
      clear hb1
      go_wp2_with fail
      refine ((unhide HF) _ (unhide HB1)).mono ?_; rintro e wx ⟨rfl, rfl⟩
      go_wp2_with fail
      refine ((unhide HJ) _ (unhide HB1)).mono ?_; rintro e w2 ⟨hb2, rfl⟩
      have HB2 := hide (thenB (unhide HB1) hb2)
      clear hb2
      go_wp2_with fail
      go_ret
      exact ⟨rfl, unhide HB2⟩
    | some b =>
      obtain ⟨m1, m2, m3, m4, m5⟩ := back_math hj
      unfold JoinIs at hjo
      rw [hj] at hjo
      have HJ := hide hjo; have HM1 := hide m1; have HM2 := hide m2; have HM3 := hide m3; have HM4 := hide m4
      have HM5 : Hid (b.length ≤ 9000) := by show b.length ≤ 9000; omega
      clear hjo hj hfew hT hA hs hn m1 m2 m3 m4 m5
      go_enter Tryd.func6, Tryd.ntmps6
      go_wp2_with fail
      refine (unhide HSA).mono ?_; rintro e w1 ⟨rfl, hb1⟩
      have HB1 := hide hb1
      clear hb1
      go_wp2_with fail
      refine ((unhide HF) _ (unhide HB1)).mono ?_; rintro e wx ⟨rfl, rfl⟩
      go_wp2_with fail
      refine ((unhide HJ) _ (unhide HB1)).mono ?_; rintro e w2 ⟨hb2, v, rfl, ho⟩
      have HB2 := hide (thenB (unhide HB1) hb2)
      have HO := hide ho
      obtain ⟨A2, c2, rfl, hsrc, hbc⟩ := own_src ho
      obtain ⟨nb, hnb⟩ : ∃ nb, b.length = nb := ⟨_, rfl⟩
      have htk := tokens_src A2 nb c2 ⟨b.toArray⟩ w2 (by show b.toArray.size = nb; simpa using hnb) (by have := unhide HM5; omega) hsrc ((unhide HT).keep (unhide HB2))
      rw [L_mk, unhide HM2] at htk
      rw [hnb] at HO ⊢
      have HTK := hide htk
      have HNB := hide hnb
      clear hb2 ho hsrc htk hbc hnb
      go_wp2_with fail
      refine (unhide HTK).mono ?_; rintro e w3 ⟨A3, c3, B3, d3, rfl, hA3, hc3, _, _, hb3⟩
      have HB3 := hide (thenB (unhide HB2) hb3)
      have HO3 := hide ((unhide HO).later hb3)
      obtain ⟨n3, hn3⟩ : ∃ n3, (Lx.toks b).1.length = n3 := ⟨_, rfl⟩
      have hj3 := join_any A3 c3 n3 (Lx.toks b).1 w3 hn3 hA3 ((unhide HT).keep (unhide HB3)) (by rw [unhide HM4]; omega) (by omega)
      unfold JoinIs at hj3
      rw [unhide HM3] at hj3
      rw [hn3]
      have HJ3 := hide hj3; have HA3 := hide hA3; have HN3 := hide hn3
      clear hb3 hA3 hc3 hj3 hn3
      go_wp2_with fail
      refine (unhide HJ3).mono ?_; rintro e w4 ⟨hb4, v4, rfl, ho4⟩
      have HB4 := hide (thenB (unhide HB3) hb4)
      have HO4 := hide ((unhide HO3).later hb4)
      have HA4 := hide ((unhide HA3).keep hb4)
      have HC4 := hide ho4
      obtain ⟨A4, c4, rfl, _, _⟩ := own_src ho4
      have hal := alike_eq A A3 c c3 n l (Lx.toks b).1 w4 (unhide HN) (unhide HM1) ((unhide HA).keep (unhide HB4)) (unhide HA4) (by omega)
      have e34 : n = n3 := by have := (unhide HM1).len; have := unhide HN; have := unhide HN3; omega
      have HAL := hide hal
      rw [unhide HNB] at HC4 ⊢
      clear hb4 ho4 hal
      have E34 := hide e34
      clear e34
      go_wp2_with fail
      rw [← unhide E34]
      refine (unhide HAL).mono ?_; rintro e w5 ⟨rfl, hb5⟩
      have HB5 := hide (thenB (unhide HB4) hb5)
      have hc1 := ((unhide HO4).later hb5).conv
      have hc2 := ((unhide HC4).later hb5).conv
      clear hb5
      go_wp2_with fail
      go_ret
      exact ⟨by simp, unhide HB5⟩
  · rw [decide_eq_false hw] at hfew
    have HF := hide hfew
    clear hfew hT hA hs hn
    go_enter Tryd.func6, Tryd.ntmps6
    go_wp2_with fail
    refine (unhide HSA).mono ?_; rintro e w1 ⟨rfl, hb1⟩
    have HB1 := hide hb1
    clear hb1
    go_wp2_with fail
    refine ((unhide HF) _ (unhide HB1)).mono ?_; rintro e wx ⟨rfl, rfl⟩
    go_wp2_with fail
    go_ret
    exact ⟨rfl, unhide HB1⟩
end Go.Proofs.YtjppjbkndfbnhaaDoor
