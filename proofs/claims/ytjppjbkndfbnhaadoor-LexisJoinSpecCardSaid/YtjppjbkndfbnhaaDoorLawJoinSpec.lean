/- The law LexisJoinSpec returns true for all lists of tokens and words. -/
import Derived.Test.YtjppjbkndfbnhaaDoorLexRJ
import Derived.Test.YtjppjbkndfbnhaaDoorLexSane
import Derived.Test.YtjppjbkndfbnhaaDoorClose
namespace Go.Proofs.YtjppjbkndfbnhaaDoor
set_option linter.unusedSimpArgs false
set_option linter.unusedVariables false
open Go.RowKit Go.LawClose

set_option maxRecDepth 100000 in
set_option maxHeartbeats 4000000 in
theorem joinSpec_any (A : Option Addr) (c : Nat) (l : List Lx.Tk) (x : ByteArray) (w : World) (hc : l.length ≤ c) (hl : l.length ≤ 140737488351232) (hA : TkAt w A l) (hs : ∀ t ∈ l, t.t.size ≤ 140737488351232) (hx : x.size ≤ 140737488351232) (hT : Tab w) :
    Calls Tryd.prog 4 #[.slice A l.length c, .string x] w (LawOk w) := by
  have HSA := hide (sane_any w hT)
  obtain ⟨n, hn⟩ : ∃ n, l.length = n := ⟨_, rfl⟩
  rw [hn] at hc hl ⊢
  have hfew := fun W (hB : Below w.heap.size w W) => few_any A c n l W hn (hA.keep hB) hl hs
  by_cases hw : Lx.wgt l ≤ 3000
  · rw [decide_eq_true hw] at hfew
    have HF := hide hfew
    by_cases hx1 : 1000 < x.size
    · have hx2 : (1000 : Int) < (x.size : Int) := by omega
      clear hT hA hs hn hfew hw
      go_enter Tryd.func4, Tryd.ntmps4
      go_wp2_with fail
      refine (unhide HSA).mono ?_; rintro e w1 ⟨rfl, hb1⟩
      have HB1 := hide hb1
      clear hb1
      go_wp2_with fail
      refine ((unhide HF) _ (unhide HB1)).mono ?_; rintro e wx ⟨rfl, rfl⟩
      go_wp2_with fail
      go_ret
      exact ⟨rfl, unhide HB1⟩
    have hx2 : ¬ (1000 : Int) < (x.size : Int) := by omega
    have hjo := fun W (hB : Below w.heap.size w W) => join_any A c n l W hn (hA.keep hB) (hT.keep hB) (by omega) hc
    have hrj := fun W (hB : Below w.heap.size w W) => rjoin_any A c n l W hn (hA.keep hB) (by omega)
    have hk1 := fun W => kw_any x W
    have hk2 := fun W => rkw_any x W
    generalize kwP (L x) = kb at hk1 hk2
    have HK1 := hide hk1; have HK2 := hide hk2
    have hnc := fun (W : World) => run_convert_bytes_nil (P := Tryd.prog) W 22 5 Tryd.underlying22 Tryd.underlying5 0 0 9 Tryd.underlying9
    clear hk1 hk2
    unfold JoinIs at hjo hrj
    cases hj : Lx.joinR l with
    | none =>
      rw [hj] at hjo hrj
      have HJ := hide hjo; have HR := hide hrj
      clear hjo hrj hj hfew hT hA hs hn
      go_enter Tryd.func4, Tryd.ntmps4
      go_wp2_with fail
      refine (unhide HSA).mono ?_; rintro e w1 ⟨rfl, hb1⟩
      have HB1 := hide hb1
      clear hb1
      go_wp2_with fail
      refine ((unhide HF) _ (unhide HB1)).mono ?_; rintro e wx ⟨rfl, rfl⟩
      go_wp2_with fail
      refine ((unhide HJ) _ (unhide HB1)).mono ?_; rintro e w2 ⟨hb2, rfl⟩
      have HB2 := hide (thenB (unhide HB1) hb2)
      clear hb2
      go_wp2_with fail
      refine ((unhide HR) _ (unhide HB2)).mono ?_; rintro e w3 ⟨hb3, rfl⟩
      have HB3 := hide (thenB (unhide HB2) hb3)
      clear hb3
      go_wp2_with fail
      refine ((unhide HK1) _).mono ?_; rintro e wx ⟨rfl, rfl⟩
      go_wp2_with fail
      refine ((unhide HK2) _).mono ?_; rintro e wx ⟨rfl, rfl⟩
      go_wp2_with fail
      go_ret
      exact ⟨by simp, unhide HB3⟩
    | some b =>
      rw [hj] at hjo hrj
      have HJ := hide hjo; have HR := hide hrj
      clear hjo hrj hj hfew hT hA hs hn hnc
      go_enter Tryd.func4, Tryd.ntmps4
      go_wp2_with fail
      refine (unhide HSA).mono ?_; rintro e w1 ⟨rfl, hb1⟩
      have HB1 := hide hb1
      clear hb1
      go_wp2_with fail
      refine ((unhide HF) _ (unhide HB1)).mono ?_; rintro e wx ⟨rfl, rfl⟩
      go_wp2_with fail
      refine ((unhide HJ) _ (unhide HB1)).mono ?_; rintro e w2 ⟨hb2, v2, rfl, ho2⟩
      have HB2 := hide (thenB (unhide HB1) hb2)
      obtain ⟨A2, c2, rfl⟩ := own_slice ho2
      have HO2 := hide ho2
      obtain ⟨nb, hnb⟩ : ∃ nb, nb = b.length := ⟨_, rfl⟩
      rw [← hnb] at HO2 ⊢
      clear hb2 ho2
      go_wp2_with fail
      refine ((unhide HR) _ (unhide HB2)).mono ?_; rintro e w3 ⟨hb3, v3, rfl, ho3⟩
      have HB3 := hide (thenB (unhide HB2) hb3)
      obtain ⟨A3, c3, rfl⟩ := own_slice ho3
      rw [← hnb] at ho3 ⊢
      have hc2 := ((unhide HO2).later hb3).conv
      have hc3 := ho3.conv
      clear hb3 ho3 hnb
      go_wp2_with fail
      refine ((unhide HK1) _).mono ?_; rintro e wx ⟨rfl, rfl⟩
      go_wp2_with fail
      refine ((unhide HK2) _).mono ?_; rintro e wx ⟨rfl, rfl⟩
      go_wp2_with fail
      go_ret
      exact ⟨by simp, unhide HB3⟩
  · rw [decide_eq_false hw] at hfew
    have HF := hide hfew
    clear hT hA hs hn hfew hw
    go_enter Tryd.func4, Tryd.ntmps4
    go_wp2_with fail
    refine (unhide HSA).mono ?_; rintro e w1 ⟨rfl, hb1⟩
    have HB1 := hide hb1
    clear hb1
    go_wp2_with fail
    refine ((unhide HF) _ (unhide HB1)).mono ?_; rintro e wx ⟨rfl, rfl⟩
    go_wp2_with fail
    go_ret
    exact ⟨rfl, unhide HB1⟩
end Go.Proofs.YtjppjbkndfbnhaaDoor
