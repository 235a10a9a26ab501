/- A contract over the codec's program: the reference's reader: Value where a list begins. (Written by wip/tools/gen_rseq.py.) -/
import Derived.Test.YtclpbjdnollfcaaDoorCodRSeq
import Derived.Deep.DeepCutAuto
import Derived.Deep.LoopGhost
import Derived.Deep.RegionHeld3
import Derived.Deep.RegionWith
import Derived.Deep.AppendLies
namespace Go.Proofs.YtclpbjdnollfcaaDoor
set_option linter.unusedSimpArgs false
set_option linter.unusedVariables false
open Go.RowKit

set_option maxRecDepth 100000 in
set_option maxHeartbeats 8000000 in
theorem rvalue_list (d : Nat) (hd : d ≤ 16) (ih : Hid (ValRIs d)) (x : Int) (hx : x = 16 - ((d + 1 : Nat) : Int)) (w : World) (rb : Nat) (A : Option Addr) (c : Nat) (l : List UInt8) (p : Nat) (b : UInt8) (h : RR w rb A c l p false) (hb : l[p]? = some b) (hbi : b.toNat = 108) (hc : lenOk l c)
    (r : Option ((List Va × List ByteArray) × List UInt8)) (hr : seqR l.length (valR l.length d) 3 (l.length - p) (l.drop (p + 1)) [] [] = r) :
    Calls Tryd.prog 34 #[.pointer (some ⟨rb, 0, none⟩), .int .i64 x] w (RVal rb A c l (d + 1) (r.map fun p => (.mk 3 0 ⟨#[]⟩ p.1.1 p.1.2, p.2)) w) := by
  have hlt := h.lt
  have hl := h.2.2
  have hpl : p < l.length := (List.getElem?_eq_some_iff.1 hb).1
  have HF := hide (fun (W : World) (hW : RR W rb A c l p false) => next_some W rb A c l p false b hW hb)
  have hR0 := h.below ((Below.refl w.heap.size w).alloc (Nat.le_refl _) (.cells zeroCells 25))
  have HR0 := hide hR0
  have b105 : ((b.toNat : Int) == 105) = false := by simp; omega
  have b108 : ((b.toNat : Int) != 108) = false := by simp; omega
  have b100 : ((b.toNat : Int) == 100) = false := by simp; omega
  have hp0 : (0 : Int) ≤ (p : Int) := Int.natCast_nonneg _
  have hp1 : (p : Int) ≤ 2000 := by omega
  have hx16 : (x == 16) = false := by simp; omega
  have hx1 : IntKind.i64.wrap (x + 1) = x + 1 := IntWalk.i64_in _ (by omega)
  have HX := hide (show x + 1 = 16 - (d : Int) by omega)
  have HRES := hide hr; have HLC := hide hc
  clear h hR0 hb hr hc hx
  go_enter Tryd.func34, Tryd.ntmps34
  go_wp2_with fail
  refine ((unhide HF) _ (unhide HR0)).mono ?_; rintro e1 w1 ⟨rfl, hb1⟩
  have hR1 := (unhide HR0).below hb1
  have hx1' := (hb1.block w.heap.size (by simp)).trans (heap_alloc_new _ _)
  have HM1 := hide (World.grownBy.trans (World.grownBy_alloc w (.cells zeroCells 25) (some rb)) (belowGrown rb hb1))
  have hz1 : w.heap.size < w1.heap.size := by have := hb1.size; simp at this; omega
  have hr1 := hR1.c1; have hr2 := hR1.c2; have hrf1 := hR1.free 1; have hrf2 := hR1.free 2
  have f0 := (boxAt hx1' 0).1; have f1 := (boxAt hx1' 1).1; have f2 := (boxAt hx1' 2).1; have f3 := (boxAt hx1' 3).1; have f4 := (boxAt hx1' 4).1
  have g0 := (boxAt hx1' 0).2; have g1 := (boxAt hx1' 1).2; have g2 := (boxAt hx1' 2).2; have g3 := (boxAt hx1' 3).2; have g4 := (boxAt hx1' 4).2
  simp at f0 f1 f2 f3 f4
  have HR1 := hide hR1; have HX1 := hide hx1'
  have hrb1 : rb < w1.heap.size := by omega
  have hne1 : ¬ rb = w.heap.size := by omega
  have hne2 : ¬ w.heap.size = rb := by omega
  clear hb1 hR1 hx1' HF HR0
  go_wp2_with fail
  have hbase : w1.heap.size = ((w1.setCell ⟨rb, 1, none⟩ (.int .i64 ((p : Int) + 1))).setCell ⟨rb, 2, none⟩ (.bool false)).heap.size := by simp [World.setCell]
  have HRW := hide ((((unhide HR1).at1).mark false).below ((Below.refl _ _).alloc (Nat.le_refl _) (.cells #[.int .i64 3, .int .i64 0, .string ⟨#[]⟩, .slice none 0 0, .slice none 0 0] 25)))
  have hx0 : ((w1.setCell ⟨rb, 1, none⟩ (.int .i64 ((p : Int) + 1))).setCell ⟨rb, 2, none⟩ (.bool false)).heap[w.heap.size]? = some (.cells zeroCells 25 (0, 0)) :=
    (Below.heap_setCell _ _ _ _ (by show w.heap.size ≠ rb; omega)).trans ((Below.heap_setCell _ _ _ _ (by show w.heap.size ≠ rb; omega)).trans (unhide HX1))
  have hxA := (heap_alloc_old ((w1.setCell ⟨rb, 1, none⟩ (.int .i64 ((p : Int) + 1))).setCell ⟨rb, 2, none⟩ (.bool false)) (.cells #[.int .i64 3, .int .i64 0, .string ⟨#[]⟩, .slice none 0 0, .slice none 0 0] 25) (by rw [← hbase]; exact hz1)).trans hx0
  have hxB := heap_alloc_new ((w1.setCell ⟨rb, 1, none⟩ (.int .i64 ((p : Int) + 1))).setCell ⟨rb, 2, none⟩ (.bool false)) (.cells #[.int .i64 3, .int .i64 0, .string ⟨#[]⟩, .slice none 0 0, .slice none 0 0] 25)
  rw [← hbase] at hxB
  have HMW := hide ((movedSet (movedSet (unhide HM1) 1 (.int .i64 ((p : Int) + 1))) 2 (.bool false)).trans (World.grownBy_alloc _ (.cells #[.int .i64 3, .int .i64 0, .string ⟨#[]⟩, .slice none 0 0, .slice none 0 0] 25) (some rb)))
  have HXA := hide hxA; have HXB := hide hxB
  clear hbase hx0 hxA hxB
  revert HRW HXA HXB HMW
  generalize (((w1.setCell ⟨rb, 1, none⟩ (.int .i64 ((p : Int) + 1))).setCell ⟨rb, 2, none⟩ (.bool false)).alloc (.cells #[.int .i64 3, .int .i64 0, .string ⟨#[]⟩, .slice none 0 0, .slice none 0 0] 25)) = W
  intro HRW HMW HXA HXB
  clear f0 f1 f2 f3 f4 g0 g1 g2 g3 g4 hr1 hr2 hrf1 hrf2 HM1 HX1 HR1
  go_loopg [] (l.length - p) (fun g wx => RAt w rb w1.heap.size A c l d 3 r g wx)
  case atStart =>
    exact ⟨.slice none 0 0, .slice none 0 0, 0, [], [], p + 1, false, ⟨unhide HXA, unhide HXB, World.ownsRow_nil _ _ _ _, World.ownsRow_nil _ _ _ _, (fun b hb => by simp [Value.ownBlock] at hb), unhide HMW⟩, by omega, by simp, unhide HRW, by omega,
      fun _ => ⟨[], rfl, (fun i x hx => by simp at hx), (fun i x hx => by simp at hx), by omega, by omega, by simp, by omega, unhide HRES⟩, (by intro h; cases h)⟩
  case round =>
    clear HRES HRW HMW HXA HXB
    obtain ⟨vL, vK, m, xs, ks, q, bad, hR, hm, hk, hrr, hq, halive, hdead⟩ := hrel
    have hzr : w1.heap.size < wr.heap.size := lt_of_block hR.2.1
    have hq0 : (0 : Int) ≤ (q : Int) := Int.natCast_nonneg _
    have hq1 : (q : Int) ≤ 2100 := by omega
    have hd0 : d ≤ 16 := hd
    cases bad with
    | true =>
      have hrn := hdead rfl
      subst hrn
      obtain ⟨A1, c1, A2, c2, rfl, rfl⟩ := rows_form hR
      have HZ := hR.1; have HBX := hR.2.1
      have f0 := (boxAt HZ 0).1; have f1 := (boxAt HZ 1).1; have f2 := (boxAt HZ 2).1; have f3 := (boxAt HZ 3).1; have f4 := (boxAt HZ 4).1
      have g0 := (boxAt HZ 0).2; have g1 := (boxAt HZ 1).2; have g2 := (boxAt HZ 2).2; have g3 := (boxAt HZ 3).2; have g4 := (boxAt HZ 4).2
      have k0 := (boxAt HBX 0).1; have k1 := (boxAt HBX 1).1; have k2 := (boxAt HBX 2).1; have k3 := (boxAt HBX 3).1; have k4 := (boxAt HBX 4).1
      simp at f0 f1 f2 f3 f4 k0 k1 k2 k3 k4
      have hk1 := hrr.c1; have hk2 := hrr.c2; have hkf := hrr.free 1
      have HRR := hide hrr; have HGR := hide hR.2.2.2.2.2
      clear hR hrr HZ HBX halive hdead
      go_wp2_with fail
      exact bodyPost_ret (v := vaV 3 0 ⟨#[]⟩ A1 m c1 A2 ks.length c2) (by simp [results, Tryd.results34, go_sem, f0, f1, f2, f3, f4]) rfl ⟨set5 (movedSet (unhide HGR) _ _) (Nat.le_refl _) _ _ _ _ _, 3, 0, ⟨#[]⟩, A1, m, c1, A2, ks.length, c2, q + 1, rfl, by omega, ((unhide HRR).at1).keep (below5 (by omega) _ _ _ _ _)⟩
    | false =>
      obtain ⟨acc, ha, hE, hKS, hql, hmq, hkq, hlg, hseq⟩ := halive rfl
      cases gk with
      | zero => omega
      | succ g =>
        by_cases hend : ∃ b2, l[q]? = some b2 ∧ b2.toNat = 101
        · obtain ⟨b2, hb2, hb101⟩ := hend
          have hqlt : q < l.length := (List.getElem?_eq_some_iff.1 hb2).1
          rw [drop_at hb2, seqR_end _ _ _ _ _ _ _ _ hb101] at hseq
          subst hseq
          subst ha
          obtain ⟨A1, c1, A2, c2, e1, e2⟩ := rows_form hR
          have HVI := hide (rows_val hR hE hKS ⟨by decide, by decide⟩ (by omega) (by omega) e1 e2)
          subst e1 e2
          have HNS := hide (next_some wr rb A c l q false b2 hrr hb2)
          have hk2 := hrr.c2
          have hb2i : ((b2.toNat : Int) != 101) = false := by simp; omega
          have HR := hide hR; have HRR := hide hrr
          clear hR hrr halive hdead hb2 hb101 hE hKS
          go_wp2_with fail
          refine (unhide HNS).mono ?_; rintro e2 w2 ⟨rfl, hbl⟩
          have hR2 := (unhide HRR).below hbl
          have HZ := (hbl.block w.heap.size (by omega)).trans (unhide HR).1; have HBX := (hbl.block w1.heap.size hzr).trans (unhide HR).2.1
          have f0 := (boxAt HZ 0).1; have f1 := (boxAt HZ 1).1; have f2 := (boxAt HZ 2).1; have f3 := (boxAt HZ 3).1; have f4 := (boxAt HZ 4).1
          have g0 := (boxAt HZ 0).2; have g1 := (boxAt HZ 1).2; have g2 := (boxAt HZ 2).2; have g3 := (boxAt HZ 3).2; have g4 := (boxAt HZ 4).2
          have k0 := (boxAt HBX 0).1; have k1 := (boxAt HBX 1).1; have k2 := (boxAt HBX 2).1; have k3 := (boxAt HBX 3).1; have k4 := (boxAt HBX 4).1
          simp at f0 f1 f2 f3 f4 k0 k1 k2 k3 k4
          have hk1 := hR2.c1; have hkf := hR2.free 1
          have hz2 : w1.heap.size < w2.heap.size := Nat.lt_of_lt_of_le hzr hbl.size
          have HR2 := hide hR2; have HBL := hide hbl
          clear hR2 HZ HBX hbl hk2 HNS
          go_wp2_with fail
          refine bodyPost_ret (v := vaV 3 0 ⟨#[]⟩ A1 acc.length c1 A2 ks.length c2) (by simp [results, Tryd.results34, go_sem, f0, f1, f2, f3, f4]) rfl ⟨set5 (movedSet ((unhide HR).2.2.2.2.2.trans (belowGrown rb (unhide HBL))) _ _) (Nat.le_refl _) _ _ _ _ _, 3, 0, ⟨#[]⟩, A1, acc.length, c1, A2, ks.length, c2, q + 1, rfl, ?_, by omega, rfl, ((unhide HR2).at1).keep (below5 (by omega) _ _ _ _ _)⟩
          refine (unhide HVI).keep (fun b hb => ⟨by omega, ?_⟩) fun b hb => ?_
          · rw [set5_size]; have := (unhide HBL).size; simp [World.setCell]; omega
          · rw [set5_block (by omega), Below.heap_setCell _ _ _ _ (by show b ≠ rb; omega)]; exact (unhide HBL).block b hb.2
        · have hno : ∀ b, l[q]? = some b → b.toNat ≠ 101 := fun b h1 h2 => hend ⟨b, h1, h2⟩
          have HNX := hide (cond_next wr rb A c l q hrr hql hno)
          have hk2 := hrr.c2
          have HR := hide hR; have HE := hide hE; have HKS := hide hKS; have HSEQ := hide hseq; have HNO := hide hno; have HA := hide ha
          clear hR hrr halive hdead hE hKS hseq hno hend ha
          go_wp2_with fail
          refine (unhide HNX).mono ?_; rintro e2 w2 ⟨y, rfl, hy, hr2, hg2⟩
          have hz2 : w1.heap.size < w2.heap.size := Nat.lt_of_lt_of_le hzr hg2.size
          have HM := hide (mid_list hlt hz1 (unhide HR) hm (unhide HA) (unhide HE) (unhide HKS) hql hmq hkq hlg (unhide HSEQ) (unhide HNO) hr2 hg2)
          clear hr2 hg2 HNX hk2 HR HE HKS HSEQ HNO HA
          go_wp2_with fail
          revert HM
          generalize w2 = wm
          intro HM
          clear hzr
          clear hm hk hql hmq hkq hlg
          obtain ⟨vL, vK, m, xs, ks, q, bad, hR, hm, hk, hrr, hq, halive, hdead⟩ := unhide HM
          have hzr : w1.heap.size < wm.heap.size := lt_of_block hR.2.1
          have HV : Hid (∀ W, Below wm.heap.size wm W → Calls Tryd.prog 34 #[.pointer (some ⟨rb, 0, none⟩), .int .i64 (x + 1)] W (RVal rb A c l d (if bad then none else valR l.length d (l.drop q)) W)) := fun W hW => value_at (unhide ih) (x + 1) (unhide HX) W rb A c l q bad (hrr.below hW) (unhide HLC) hq (fun hb => by obtain ⟨_, _, _, _, h, _⟩ := halive hb; exact h)
          have k3 := (boxAt hR.2.1 3).1; have k3f := (boxAt hR.2.1 3).2
          simp at k3
          have hnl := hR.2.2.1.lt
          have HOL := hide hR.2.2.1; have HNL := hide hnl
          have HR := hide hR; have HAL := hide halive; have HDE := hide hdead
          obtain ⟨i0, hi, hz0, hzz1, hzz2⟩ := info_parts infoVal
          clear hR hrr hnl halive hdead HM
          refine wp_region_held_drew (S := fun W => W.frozen? ⟨w1.heap.size, 3, none⟩ = false) (by kernel_rfl) k3f (fun hHeld => ?_)
          refine wpAnyH_take (i := 0) (v := ?_) rfl (by kernel_rfl) (by kernel_rfl) (by kernel_rfl) (fun _ _ _ h => h) (Or.inl ⟨by rfl, ?_⟩) (by assumption) ?_
          rotate_left
          · intro W hSW
            try dsimp only at hSW
            go_simp
            try with_reducible rfl
          try simp only [Act.put, List.setIfInBounds_toArray, List.set_cons_zero, List.set_cons_succ]
          refine wpAnyH_take (i := 2) (v := ?_) rfl (by kernel_rfl) (by kernel_rfl) (by kernel_rfl) (fun _ _ _ h => h) (Or.inl ⟨by rfl, ?_⟩) (by assumption) ?_
          rotate_left
          · intro W hSW
            try dsimp only at hSW
            go_simp
            try with_reducible rfl
          try simp only [Act.put, List.setIfInBounds_toArray, List.set_cons_zero, List.set_cons_succ]
          refine wpAnyH_take (i := 3) (v := ?_) rfl (by kernel_rfl) (by kernel_rfl) (by kernel_rfl) (fun _ _ _ h => h) (Or.inl ⟨by rfl, ?_⟩) (by assumption) ?_
          rotate_left
          · intro W hSW
            try dsimp only at hSW
            go_simp
            try with_reducible rfl
          try simp only [Act.put, List.setIfInBounds_toArray, List.set_cons_zero, List.set_cons_succ]
          refine wpAnyH_take (i := 4) (v := ?_) rfl (by kernel_rfl) (by kernel_rfl) (by kernel_rfl) (fun _ _ _ h => h) (Or.inl ⟨by rfl, ?_⟩) (by assumption) ?_
          rotate_left
          · intro W hSW
            try dsimp only at hSW
            go_simp
            try with_reducible rfl
          try simp only [Act.put, List.setIfInBounds_toArray, List.set_cons_zero, List.set_cons_succ]
          refine wpAnyH_ready (rs := [1, 5]) (by kernel_rfl) (by simp) ?_
          refine AllReadyH.cons (o := { dst := some 106, op := .load 22 (.tmp 105), type := 22, pos := "ref.go:195", after := #[{ on := 0, ground := .data }], guard := none }) rfl (fun K hK => ?_) (AllReadyH.cons (o := { dst := some 110, op := .call { callee := .value (.func 34), args := #[.tmp 107, .tmp 109], argTypes := #[53, 3] }, type := 25, pos := "ref.go:195", after := #[{ on := 2, ground := .data }, { on := 4, ground := .data }], guard := none }) rfl (fun K hK => ?_) AllReadyH.nil)
          · go_simp
            refine hK.out _ _ ?_ (fun hHeld => ?_)
            · exact k3f
            clear hK K
            try simp only [Act.put, List.setIfInBounds_toArray, List.set_cons_zero, List.set_cons_succ]
            refine wpAnyH_ready (rs := [5]) (by kernel_rfl) (by simp) ?_
            refine AllReadyH.cons (o := { dst := some 110, op := .call { callee := .value (.func 34), args := #[.tmp 107, .tmp 109], argTypes := #[53, 3] }, type := 25, pos := "ref.go:195", after := #[{ on := 2, ground := .data }, { on := 4, ground := .data }], guard := none }) rfl (fun K hK => ?_) AllReadyH.nil
            go_simp
            refine ((unhide HV) _ (belowDrewN 1 (Below.refl _ _))).mono ?_; rintro e w3 ⟨hg3, e1, e2, e3, e4, e5, e6, e7, e8, e9, p3, rfl, hc3⟩
            have HC3 := hide hc3
            clear hc3
            have hz3 : w1.heap.size < w3.heap.size := Nat.lt_of_lt_of_le hzr hg3.size
            have c3 : w3.cell? ⟨w1.heap.size, 3, none⟩ = some vL := (hg3.cell_far ⟨w1.heap.size, 3, none⟩ hzr (by simp; omega)).trans k3
            have c3f : w3.frozen? ⟨w1.heap.size, 3, none⟩ = false := (hg3.frozen_far ⟨w1.heap.size, 3, none⟩ hzr (by simp; omega)).trans k3f
            refine hK.out _ _ ?_ (fun hHeld => ?_)
            · exact c3f
            clear hK K
            try simp only [Act.put, List.setIfInBounds_toArray, List.set_cons_zero, List.set_cons_succ]
            refine wpAnyH_ready (rs := [6]) (by kernel_rfl) (by simp) ?_
            refine AllReadyH.cons (o := { dst := some 111, op := .buildSlice 22 1 #[(0, .tmp 110)], type := 22, pos := "ref.go:195", after := #[{ on := 5, ground := .data }], guard := none }) rfl (fun K hK => ?_) AllReadyH.nil
            go_simp
            refine hK.out _ _ ?_ (fun hHeld => ?_)
            · exact (((Below.refl w3.heap.size w3).alloc (Nat.le_refl _) _).frozen (p := ⟨w1.heap.size, 3, none⟩) hz3).trans c3f
            clear hK K
            try simp only [Act.put, List.setIfInBounds_toArray, List.set_cons_zero, List.set_cons_succ]
            refine wpAnyH_ready (rs := [7]) (by kernel_rfl) (by simp) ?_
            refine AllReadyH.cons (o := { dst := some 112, op := .call { callee := .builtin .append, args := #[.tmp 106, .tmp 111], argTypes := #[22, 22] }, type := 22, pos := "ref.go:195", after := #[{ on := 1, ground := .data }, { on := 6, ground := .data }, { on := 5, ground := .chain }], guard := none }) rfl (fun K hK => ?_) AllReadyH.nil
            refine step_append_at _ (by rfl) _ _ _ (by rfl) (w1.heap.size + 1) 25 i0 _ 5 80 Tryd.underlying22 hi hz0 hzz1 hzz2 rfl (by omega) vL m xs (by rfl)
              (World.ownsRow.alloc ((unhide HOL).kept (grownDrew hg3) (by right; intro e; have := (unhide HNL) _ e; omega)) _)
              ⟨w3.heap.size, 0, none⟩ 1 1 [.int .i64 e1, .int .i64 e2, .string e3, .slice e4 e5 e6, .slice e7 e8 e9] (by rfl) (by rfl) (World.news_of_block (cs := #[.int .i64 e1, .int .i64 e2, .string e3, .slice e4 e5 e6, .slice e7 e8 e9]) (t := 25) (fr := (0, 0)) (heap_alloc_new w3 _)) (by simp [Value.oneCell'])
              (by unfold maxLen; omega) (by omega) (by simp; omega) ?_
            intro v4 w4 hown4 hg4 hrow4 hat4
            obtain ⟨g4, cap4, rfl, hg41, hg42⟩ := hown4.form (by omega)
            have hr4 : some w1.heap.size ≠ vL.ownBlock := fun e => by have := ((unhide HNL) _ e.symm).1; omega
            have c4f : w4.frozen? ⟨w1.heap.size, 3, none⟩ = false := (hg4.frozen_far ⟨w1.heap.size, 3, none⟩ (by simp; omega) hr4).trans ((((Below.refl w3.heap.size w3).alloc (Nat.le_refl _) _).frozen (p := ⟨w1.heap.size, 3, none⟩) hz3).trans c3f)
            have c4 : w4.cell? ⟨w1.heap.size, 3, none⟩ = some vL := (hg4.cell_far ⟨w1.heap.size, 3, none⟩ (by simp; omega) hr4).trans ((World.cell?_alloc_lt _ _ _ hz3).trans c3)
            refine hK.out _ _ ?_ (fun hHeld => ?_)
            · exact c4f
            clear hK K
            try simp only [Act.put, List.setIfInBounds_toArray, List.set_cons_zero, List.set_cons_succ]
            refine wpAnyH_take (i := 8) (v := ?_) rfl (by kernel_rfl) (by kernel_rfl) (by kernel_rfl) (fun _ _ _ h => h) (Or.inl ⟨by rfl, ?_⟩) (by assumption) ?_
            rotate_left
            · intro W hSW
              try dsimp only at hSW
              go_simp
              try with_reducible rfl
            try simp only [Act.put, List.setIfInBounds_toArray, List.set_cons_zero, List.set_cons_succ]
            refine wpAnyH_ready (rs := [9]) (by kernel_rfl) (by simp) ?_
            refine AllReadyH.cons rfl (fun K hK => ?_) AllReadyH.nil
            go_simp
            refine hK.out _ _ ?_ (fun hHeld => ?_)
            · exact (World.frozen?_setCell _ _ _ _).trans c4f
            clear hK K
            try simp only [Act.put, List.setIfInBounds_toArray, List.set_cons_zero, List.set_cons_succ]
            refine wpAnyH_done (by kernel_rfl) ?_ _
            go_wp2_with fail
            go_roundg g
            case measure => omega
            case rel => exact mid_end hlt hz1 (unhide HR) hm hk hl (unhide HAL) (unhide HDE) (grownDrew hg3) (unhide HC3) hown4 hg4 hat4
          · go_simp
            refine ((unhide HV) _ (belowDrewN 1 (Below.refl _ _))).mono ?_; rintro e w3 ⟨hg3, e1, e2, e3, e4, e5, e6, e7, e8, e9, p3, rfl, hc3⟩
            have HC3 := hide hc3
            clear hc3
            have hz3 : w1.heap.size < w3.heap.size := Nat.lt_of_lt_of_le hzr hg3.size
            have c3 : w3.cell? ⟨w1.heap.size, 3, none⟩ = some vL := (hg3.cell_far ⟨w1.heap.size, 3, none⟩ hzr (by simp; omega)).trans k3
            have c3f : w3.frozen? ⟨w1.heap.size, 3, none⟩ = false := (hg3.frozen_far ⟨w1.heap.size, 3, none⟩ hzr (by simp; omega)).trans k3f
            refine hK.out _ _ ?_ (fun hHeld => ?_)
            · exact c3f
            clear hK K
            try simp only [Act.put, List.setIfInBounds_toArray, List.set_cons_zero, List.set_cons_succ]
            refine wpAnyH_ready (rs := [1, 6]) (by kernel_rfl) (by simp) ?_
            refine AllReadyH.cons (o := { dst := some 106, op := .load 22 (.tmp 105), type := 22, pos := "ref.go:195", after := #[{ on := 0, ground := .data }], guard := none }) rfl (fun K hK => ?_) (AllReadyH.cons (o := { dst := some 111, op := .buildSlice 22 1 #[(0, .tmp 110)], type := 22, pos := "ref.go:195", after := #[{ on := 5, ground := .data }], guard := none }) rfl (fun K hK => ?_) AllReadyH.nil)
            · go_simp
              refine hK.out _ _ ?_ (fun hHeld => ?_)
              · exact c3f
              clear hK K
              try simp only [Act.put, List.setIfInBounds_toArray, List.set_cons_zero, List.set_cons_succ]
              refine wpAnyH_ready (rs := [6]) (by kernel_rfl) (by simp) ?_
              refine AllReadyH.cons (o := { dst := some 111, op := .buildSlice 22 1 #[(0, .tmp 110)], type := 22, pos := "ref.go:195", after := #[{ on := 5, ground := .data }], guard := none }) rfl (fun K hK => ?_) AllReadyH.nil
              go_simp
              refine hK.out _ _ ?_ (fun hHeld => ?_)
              · exact (((Below.refl w3.heap.size w3).alloc (Nat.le_refl _) _).frozen (p := ⟨w1.heap.size, 3, none⟩) hz3).trans c3f
              clear hK K
              try simp only [Act.put, List.setIfInBounds_toArray, List.set_cons_zero, List.set_cons_succ]
              refine wpAnyH_ready (rs := [7]) (by kernel_rfl) (by simp) ?_
              refine AllReadyH.cons (o := { dst := some 112, op := .call { callee := .builtin .append, args := #[.tmp 106, .tmp 111], argTypes := #[22, 22] }, type := 22, pos := "ref.go:195", after := #[{ on := 1, ground := .data }, { on := 6, ground := .data }, { on := 5, ground := .chain }], guard := none }) rfl (fun K hK => ?_) AllReadyH.nil
              refine step_append_at _ (by rfl) _ _ _ (by rfl) (w1.heap.size + 1) 25 i0 _ 5 80 Tryd.underlying22 hi hz0 hzz1 hzz2 rfl (by omega) vL m xs (by rfl)
                (World.ownsRow.alloc ((unhide HOL).kept (grownDrew hg3) (by right; intro e; have := (unhide HNL) _ e; omega)) _)
                ⟨w3.heap.size, 0, none⟩ 1 1 [.int .i64 e1, .int .i64 e2, .string e3, .slice e4 e5 e6, .slice e7 e8 e9] (by rfl) (by rfl) (World.news_of_block (cs := #[.int .i64 e1, .int .i64 e2, .string e3, .slice e4 e5 e6, .slice e7 e8 e9]) (t := 25) (fr := (0, 0)) (heap_alloc_new w3 _)) (by simp [Value.oneCell'])
                (by unfold maxLen; omega) (by omega) (by simp; omega) ?_
              intro v4 w4 hown4 hg4 hrow4 hat4
              obtain ⟨g4, cap4, rfl, hg41, hg42⟩ := hown4.form (by omega)
              have hr4 : some w1.heap.size ≠ vL.ownBlock := fun e => by have := ((unhide HNL) _ e.symm).1; omega
              have c4f : w4.frozen? ⟨w1.heap.size, 3, none⟩ = false := (hg4.frozen_far ⟨w1.heap.size, 3, none⟩ (by simp; omega) hr4).trans ((((Below.refl w3.heap.size w3).alloc (Nat.le_refl _) _).frozen (p := ⟨w1.heap.size, 3, none⟩) hz3).trans c3f)
              have c4 : w4.cell? ⟨w1.heap.size, 3, none⟩ = some vL := (hg4.cell_far ⟨w1.heap.size, 3, none⟩ (by simp; omega) hr4).trans ((World.cell?_alloc_lt _ _ _ hz3).trans c3)
              refine hK.out _ _ ?_ (fun hHeld => ?_)
              · exact c4f
              clear hK K
              try simp only [Act.put, List.setIfInBounds_toArray, List.set_cons_zero, List.set_cons_succ]
              refine wpAnyH_take (i := 8) (v := ?_) rfl (by kernel_rfl) (by kernel_rfl) (by kernel_rfl) (fun _ _ _ h => h) (Or.inl ⟨by rfl, ?_⟩) (by assumption) ?_
              rotate_left
              · intro W hSW
                try dsimp only at hSW
                go_simp
                try with_reducible rfl
              try simp only [Act.put, List.setIfInBounds_toArray, List.set_cons_zero, List.set_cons_succ]
              refine wpAnyH_ready (rs := [9]) (by kernel_rfl) (by simp) ?_
              refine AllReadyH.cons rfl (fun K hK => ?_) AllReadyH.nil
              go_simp
              refine hK.out _ _ ?_ (fun hHeld => ?_)
              · exact (World.frozen?_setCell _ _ _ _).trans c4f
              clear hK K
              try simp only [Act.put, List.setIfInBounds_toArray, List.set_cons_zero, List.set_cons_succ]
              refine wpAnyH_done (by kernel_rfl) ?_ _
              go_wp2_with fail
              go_roundg g
              case measure => omega
              case rel => exact mid_end hlt hz1 (unhide HR) hm hk hl (unhide HAL) (unhide HDE) (grownDrew hg3) (unhide HC3) hown4 hg4 hat4
            · go_simp
              refine hK.out _ _ ?_ (fun hHeld => ?_)
              · exact (((Below.refl w3.heap.size w3).alloc (Nat.le_refl _) _).frozen (p := ⟨w1.heap.size, 3, none⟩) hz3).trans c3f
              clear hK K
              try simp only [Act.put, List.setIfInBounds_toArray, List.set_cons_zero, List.set_cons_succ]
              refine wpAnyH_ready (rs := [1]) (by kernel_rfl) (by simp) ?_
              refine AllReadyH.cons (o := { dst := some 106, op := .load 22 (.tmp 105), type := 22, pos := "ref.go:195", after := #[{ on := 0, ground := .data }], guard := none }) rfl (fun K hK => ?_) AllReadyH.nil
              go_simp
              refine hK.out _ _ ?_ (fun hHeld => ?_)
              · exact (((Below.refl w3.heap.size w3).alloc (Nat.le_refl _) _).frozen (p := ⟨w1.heap.size, 3, none⟩) hz3).trans c3f
              clear hK K
              try simp only [Act.put, List.setIfInBounds_toArray, List.set_cons_zero, List.set_cons_succ]
              refine wpAnyH_ready (rs := [7]) (by kernel_rfl) (by simp) ?_
              refine AllReadyH.cons (o := { dst := some 112, op := .call { callee := .builtin .append, args := #[.tmp 106, .tmp 111], argTypes := #[22, 22] }, type := 22, pos := "ref.go:195", after := #[{ on := 1, ground := .data }, { on := 6, ground := .data }, { on := 5, ground := .chain }], guard := none }) rfl (fun K hK => ?_) AllReadyH.nil
              refine step_append_at _ (by rfl) _ _ _ (by rfl) (w1.heap.size + 1) 25 i0 _ 5 80 Tryd.underlying22 hi hz0 hzz1 hzz2 rfl (by omega) vL m xs (by rfl)
                (World.ownsRow.alloc ((unhide HOL).kept (grownDrew hg3) (by right; intro e; have := (unhide HNL) _ e; omega)) _)
                ⟨w3.heap.size, 0, none⟩ 1 1 [.int .i64 e1, .int .i64 e2, .string e3, .slice e4 e5 e6, .slice e7 e8 e9] (by rfl) (by rfl) (World.news_of_block (cs := #[.int .i64 e1, .int .i64 e2, .string e3, .slice e4 e5 e6, .slice e7 e8 e9]) (t := 25) (fr := (0, 0)) (heap_alloc_new w3 _)) (by simp [Value.oneCell'])
                (by unfold maxLen; omega) (by omega) (by simp; omega) ?_
              intro v4 w4 hown4 hg4 hrow4 hat4
              obtain ⟨g4, cap4, rfl, hg41, hg42⟩ := hown4.form (by omega)
              have hr4 : some w1.heap.size ≠ vL.ownBlock := fun e => by have := ((unhide HNL) _ e.symm).1; omega
              have c4f : w4.frozen? ⟨w1.heap.size, 3, none⟩ = false := (hg4.frozen_far ⟨w1.heap.size, 3, none⟩ (by simp; omega) hr4).trans ((((Below.refl w3.heap.size w3).alloc (Nat.le_refl _) _).frozen (p := ⟨w1.heap.size, 3, none⟩) hz3).trans c3f)
              have c4 : w4.cell? ⟨w1.heap.size, 3, none⟩ = some vL := (hg4.cell_far ⟨w1.heap.size, 3, none⟩ (by simp; omega) hr4).trans ((World.cell?_alloc_lt _ _ _ hz3).trans c3)
              refine hK.out _ _ ?_ (fun hHeld => ?_)
              · exact c4f
              clear hK K
              try simp only [Act.put, List.setIfInBounds_toArray, List.set_cons_zero, List.set_cons_succ]
              refine wpAnyH_take (i := 8) (v := ?_) rfl (by kernel_rfl) (by kernel_rfl) (by kernel_rfl) (fun _ _ _ h => h) (Or.inl ⟨by rfl, ?_⟩) (by assumption) ?_
              rotate_left
              · intro W hSW
                try dsimp only at hSW
                go_simp
                try with_reducible rfl
              try simp only [Act.put, List.setIfInBounds_toArray, List.set_cons_zero, List.set_cons_succ]
              refine wpAnyH_ready (rs := [9]) (by kernel_rfl) (by simp) ?_
              refine AllReadyH.cons rfl (fun K hK => ?_) AllReadyH.nil
              go_simp
              refine hK.out _ _ ?_ (fun hHeld => ?_)
              · exact (World.frozen?_setCell _ _ _ _).trans c4f
              clear hK K
              try simp only [Act.put, List.setIfInBounds_toArray, List.set_cons_zero, List.set_cons_succ]
              refine wpAnyH_done (by kernel_rfl) ?_ _
              go_wp2_with fail
              go_roundg g
              case measure => omega
              case rel => exact mid_end hlt hz1 (unhide HR) hm hk hl (unhide HAL) (unhide HDE) (grownDrew hg3) (unhide HC3) hown4 hg4 hat4
end Go.Proofs.YtclpbjdnollfcaaDoor
