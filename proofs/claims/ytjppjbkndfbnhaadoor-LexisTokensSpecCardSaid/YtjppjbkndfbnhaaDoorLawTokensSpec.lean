/- The law LexisTokensSpec returns true for all texts. -/
import Derived.Test.YtjppjbkndfbnhaaDoorLexRK
import Derived.Test.YtjppjbkndfbnhaaDoorLexBk
import Derived.Test.YtjppjbkndfbnhaaDoorClose
namespace Lx
theorem scan_pl : ∀ (f : Nat) (l : List B) (a : Nat) (e : Int) (nb : Nat), (scan f l a e nb).2.length ≤ 64 - nb := by
  intro f
  induction f with
  | zero => intro l a e nb; exact Nat.zero_le _
  | succ f ih =>
    intro l a e nb
    conv => lhs; unfold scan
    split
    · exact Nat.zero_le _
    · rename_i c r hd
      split
      · split
        · rename_i h0 hc
          have := ih ((c :: r).drop (tok1 (c :: r)).2.2) (a + blk false l + (tok1 (c :: r)).2.2) ((a + blk false l + (tok1 (c :: r)).2.2 : Nat) : Int) (nb + 1)
          simp only [List.length_cons]
          omega
        · exact ih _ _ _ _
      · exact ih _ _ _ _
theorem toks_len (S : List B) (h : wgt (toks S).1 ≤ 2 * S.length + 1) : (toks S).1.length ≤ 2 * S.length + 1 ∧ (toks S).2.length ≤ 64 :=
  ⟨Nat.le_trans (wgt_len _) h, scan_pl _ _ _ _ _⟩
end Lx
namespace Go.Proofs.YtjppjbkndfbnhaaDoor
set_option linter.unusedSimpArgs false
set_option linter.unusedVariables false
open Go.RowKit Go.LawClose

theorem rtokens_src (A : Option Addr) (n c : Nat) (s : ByteArray) (w : World) (hn : s.size = n) (h : n ≤ 65536) (hS : Src w A s) (hc : n ≤ c) :
    Calls Tryd.prog 13 #[.slice A n c] w (TkEnd (Lx.toks (L s)).1 (Lx.toks (L s)).2 w) := by
  refine (rtokens_yes A n c s w hn h hS hc).mono ?_
  rintro e w' ⟨v, u, rfl, hv, hu, hb⟩
  obtain ⟨A1, c1, rfl, h1, h2, h3⟩ := own_tk hv
  obtain ⟨B1, d1, rfl, h4, _⟩ := own_pb hu
  exact ⟨A1, c1, B1, d1, rfl, h1, h2, h3, h4, hb⟩
set_option maxRecDepth 100000 in
set_option maxHeartbeats 4000000 in
theorem tokensSpec_any (A : Option Addr) (c : Nat) (s : ByteArray) (w : World) (hc : s.size ≤ c) (hA : A = none → c = 0) (hs : s.size ≤ 140737488351232) (hS : Src w A s) (hT : Tab w) :
    Calls Tryd.prog 3 #[.slice A s.size c] w (LawOk w) := by
  have HSA := hide (sane_any w hT)
  obtain ⟨n, hn⟩ : ∃ n, s.size = n := ⟨_, rfl⟩
  rw [hn] at hc hs ⊢
  by_cases h1 : 3000 < n ∧ n ≤ 65536
  · have h' : (3000 : Int) < (n : Int) := by omega
    have h'' : (n : Int) ≤ 65536 := by omega
    clear hT hS
    go_enter Tryd.func3, Tryd.ntmps3
    go_wp2_with fail
    refine (unhide HSA).mono ?_; rintro e w1 ⟨rfl, hb1⟩
    have HB1 := hide hb1
    clear hb1
    go_wp2_with fail
    go_ret
    exact ⟨rfl, unhide HB1⟩
  by_cases h2 : 70000 < n
  · have h0 : (3000 : Int) < (n : Int) := by omega
    have h' : ¬ (n : Int) ≤ 65536 := by omega
    have h'' : (70000 : Int) < (n : Int) := by omega
    clear hT hS
    go_enter Tryd.func3, Tryd.ntmps3
    go_wp2_with fail
    refine (unhide HSA).mono ?_; rintro e w1 ⟨rfl, hb1⟩
    have HB1 := hide hb1
    clear hb1
    go_wp2_with fail
    go_ret
    exact ⟨rfl, unhide HB1⟩
  have h7 : ¬ (70000 : Int) < (n : Int) := by omega
  by_cases h3 : 3000 < n
  · have h0 : (3000 : Int) < (n : Int) := by omega
    have h' : ¬ (n : Int) ≤ 65536 := by omega
    have hx1 := fun W => tokens_no A n c W (by omega)
    have hx2 := fun W => rtokens_no A n c W (by omega)
    have hx3 := fun W => same_eq none none 0 0 0 [] W rfl TkAt.nil TkAt.nil (by omega)
    have hx4 := fun W => sameP_eq none none 0 0 0 [] W rfl PbAt.nil PbAt.nil (by omega)
    have HX1 := hide hx1; have HX2 := hide hx2; have HX3 := hide hx3; have HX4 := hide hx4
    clear hx1 hx2 hx3 hx4 hS hT
    go_enter Tryd.func3, Tryd.ntmps3
    go_wp2_with fail
    refine (unhide HSA).mono ?_; rintro e w1 ⟨rfl, hb1⟩
    have HB1 := hide hb1
    clear hb1
    go_wp2_with fail
    refine ((unhide HX1) _).mono ?_; rintro e w2 ⟨rfl, hb2⟩
    have HB2 := hide (thenB (unhide HB1) hb2)
    clear hb2
    go_wp2_with fail
    refine ((unhide HX2) _).mono ?_; rintro e w3 ⟨rfl, rfl⟩
    go_wp2_with fail
    refine ((unhide HX3) _).mono ?_; rintro e w4 ⟨rfl, hb4⟩
    have HB4 := hide (thenB (unhide HB2) hb4)
    clear hb4
    go_wp2_with fail
    refine ((unhide HX4) _).mono ?_; rintro e w5 ⟨rfl, hb5⟩
    have HB5 := hide (thenB (unhide HB4) hb5)
    clear hb5
    go_wp2_with fail
    go_ret
    exact ⟨by simp, unhide HB5⟩
  · have h0 : ¬ (3000 : Int) < (n : Int) := by omega
    have hx1 := fun W (hB : Below w.heap.size w W) => tokens_src A n c s W hn (by omega) (hS.keep hB) (hT.keep hB)
    have hx2 := fun W (hB : Below w.heap.size w W) => rtokens_src A n c s W hn (by omega) (hS.keep hB) hc
    have htl := Lx.toks_len (L s) (by obtain ⟨_, _, h⟩ := again_math (L s); exact h)
    rw [L_len, hn] at htl
    generalize Lx.toks (L s) = T at hx1 hx2 htl
    obtain ⟨T1, T2⟩ := T
    simp only at hx1 hx2 htl
    obtain ⟨nt, hnt⟩ : ∃ nt, T1.length = nt := ⟨_, rfl⟩
    obtain ⟨np, hnp⟩ : ∃ np, T2.length = np := ⟨_, rfl⟩
    unfold TkEnd at hx1 hx2
    rw [hnt] at hx1 hx2 htl
    rw [hnp] at hx1 hx2 htl
    have HX1 := hide hx1; have HX2 := hide hx2; have HNT := hide hnt; have HNP := hide hnp
    obtain ⟨htl1, htl2⟩ := htl
    clear hx1 hx2 hS hT hnt hnp
    go_enter Tryd.func3, Tryd.ntmps3
    go_wp2_with fail
    refine (unhide HSA).mono ?_; rintro e w1 ⟨rfl, hb1⟩
    have HB1 := hide hb1
    clear hb1
    go_wp2_with fail
    refine ((unhide HX1) _ (unhide HB1)).mono ?_; rintro e w2 ⟨A2, c2, B2, d2, rfl, hA2, _, _, hP2, hb2⟩
    have HB2 := hide (thenB (unhide HB1) hb2)
    have HA2 := hide hA2; have HP2 := hide hP2
    clear hb2 hA2 hP2
    go_wp2_with fail
    refine ((unhide HX2) _ (unhide HB2)).mono ?_; rintro e w3 ⟨A3, c3, B3, d3, rfl, hA3, _, _, hP3, hb3⟩
    have HB3 := hide (thenB (unhide HB2) hb3)
    have hsm := same_eq A2 A3 c2 c3 nt T1 w3 (unhide HNT) ((unhide HA2).keep hb3) hA3 (by omega)
    have HSM := hide hsm
    have hpm := fun W (hB : Below w3.heap.size w3 W) => sameP_eq B2 B3 d2 d3 np T2 W (unhide HNP) (((unhide HP2).keep hb3).keep hB) (hP3.keep hB) (by omega)
    have HPM := hide hpm
    clear hb3 hA3 hP3 hsm hpm
    go_wp2_with fail
    refine (unhide HSM).mono ?_; rintro e w4 ⟨rfl, hb4⟩
    have HB4 := hide hb4
    clear hb4
    go_wp2_with fail
    refine ((unhide HPM) _ (unhide HB4)).mono ?_; rintro e w5 ⟨rfl, hb5⟩
    have HB5 := hide (thenB (unhide HB3) (thenB (unhide HB4) hb5))
    clear hb5
    go_wp2_with fail
    go_ret
    exact ⟨by simp, unhide HB5⟩
end Go.Proofs.YtjppjbkndfbnhaaDoor
