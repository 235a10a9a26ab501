/- Contracts over the codec's program: the reference's reader: Value where a list or dictionary begins too deep. -/
import Derived.Test.YtclpbjdnollfcaaDoorCodRInt
namespace Go.Proofs.YtclpbjdnollfcaaDoor
set_option linter.unusedSimpArgs false
set_option linter.unusedVariables false
open Go.RowKit

set_option maxRecDepth 100000 in
set_option maxHeartbeats 1000000 in
theorem value_deep_list (D : Nat) (w : World) (rb : Nat) (A : Option Addr) (c : Nat) (l : List UInt8) (p : Nat) (b : UInt8) (h : RR w rb A c l p false) (hb : l[p]? = some b) (hbi : b.toNat = 108) :
    Calls Tryd.prog 34 #[.pointer (some ⟨rb, 0, none⟩), .int .i64 16] w (RVal rb A c l D none w) := by
  have hlt := h.lt
  have hl := h.2.2
  have hpl : p < l.length := (List.getElem?_eq_some_iff.1 hb).1
  have HF := hide (fun (W : World) (hW : RR W rb A c l p false) => next_some W rb A c l p false b hW hb)
  have hR0 := h.below ((Below.refl w.heap.size w).alloc (Nat.le_refl _) (.cells zeroCells 25))
  have HR0 := hide hR0
  have b105 : ((b.toNat : Int) == 105) = false := by simp; omega
  have b108 : ((b.toNat : Int) != 108) = false := by simp; omega
  have b100 : ((b.toNat : Int) == 100) = false := by simp; omega
  have hp0 : (0 : Int) ≤ (p : Int) := Int.natCast_nonneg _
  have hp1 : (p : Int) ≤ 2000 := by omega
  clear h hR0 hb
  go_enter Tryd.func34, Tryd.ntmps34
  go_wp2_with fail
  refine ((unhide HF) _ (unhide HR0)).mono ?_; rintro e1 w1 ⟨rfl, hb1⟩
  have hR1 := (unhide HR0).below hb1
  have hx1 := (hb1.block w.heap.size (by simp)).trans (heap_alloc_new _ _)
  have HM1 := hide (World.grownBy.trans (World.grownBy_alloc w (.cells zeroCells 25) (some rb)) (belowGrown rb hb1))
  have hz1 : w.heap.size < w1.heap.size := by have := hb1.size; simp at this; omega
  have hr1 := hR1.c1; have hr2 := hR1.c2; have hrf1 := hR1.free 1; have hrf2 := hR1.free 2
  have f0 := (boxAt hx1 0).1; have f1 := (boxAt hx1 1).1; have f2 := (boxAt hx1 2).1; have f3 := (boxAt hx1 3).1; have f4 := (boxAt hx1 4).1
  have g0 := (boxAt hx1 0).2; have g1 := (boxAt hx1 1).2; have g2 := (boxAt hx1 2).2; have g3 := (boxAt hx1 3).2; have g4 := (boxAt hx1 4).2
  simp at f0 f1 f2 f3 f4
  have HR1 := hide hR1; have HX1 := hide hx1
  have hrb1 : rb < w1.heap.size := by omega
  have hne1 : ¬ rb = w.heap.size := by omega
  have hne2 : ¬ w.heap.size = rb := by omega
  clear hb1 hR1 hx1 HF HR0
  go_wp2_with fail
  have hbase : w1.heap.size = ((w1.setCell ⟨rb, 1, none⟩ (.int .i64 ((p : Int) + 1))).setCell ⟨rb, 2, none⟩ (.bool true)).heap.size := by simp [World.setCell]
  have HRW := hide ((((unhide HR1).at1).mark true).below ((Below.refl _ _).alloc (Nat.le_refl _) (.cells #[.int .i64 3, .int .i64 0, .string ⟨#[]⟩, .slice none 0 0, .slice none 0 0] 25)))
  have hx0 : ((w1.setCell ⟨rb, 1, none⟩ (.int .i64 ((p : Int) + 1))).setCell ⟨rb, 2, none⟩ (.bool true)).heap[w.heap.size]? = some (.cells zeroCells 25 (0, 0)) :=
    (Below.heap_setCell _ _ _ _ (by show w.heap.size ≠ rb; omega)).trans ((Below.heap_setCell _ _ _ _ (by show w.heap.size ≠ rb; omega)).trans (unhide HX1))
  have hxA := (heap_alloc_old ((w1.setCell ⟨rb, 1, none⟩ (.int .i64 ((p : Int) + 1))).setCell ⟨rb, 2, none⟩ (.bool true)) (.cells #[.int .i64 3, .int .i64 0, .string ⟨#[]⟩, .slice none 0 0, .slice none 0 0] 25) (by rw [← hbase]; exact hz1)).trans hx0
  have hxB := heap_alloc_new ((w1.setCell ⟨rb, 1, none⟩ (.int .i64 ((p : Int) + 1))).setCell ⟨rb, 2, none⟩ (.bool true)) (.cells #[.int .i64 3, .int .i64 0, .string ⟨#[]⟩, .slice none 0 0, .slice none 0 0] 25)
  rw [← hbase] at hxB
  have HMW := hide ((movedSet (movedSet (unhide HM1) 1 (.int .i64 ((p : Int) + 1))) 2 (.bool true)).trans (World.grownBy_alloc _ (.cells #[.int .i64 3, .int .i64 0, .string ⟨#[]⟩, .slice none 0 0, .slice none 0 0] 25) (some rb)))
  have HXA := hide hxA; have HXB := hide hxB
  clear hbase hx0 hxA hxB
  revert HRW HXA HXB HMW
  generalize (((w1.setCell ⟨rb, 1, none⟩ (.int .i64 ((p : Int) + 1))).setCell ⟨rb, 2, none⟩ (.bool true)).alloc (.cells #[.int .i64 3, .int .i64 0, .string ⟨#[]⟩, .slice none 0 0, .slice none 0 0] 25)) = W
  intro HRW HMW HXA HXB
  clear f0 f1 f2 f3 f4 g0 g1 g2 g3 g4 hr1 hr2 hrf1 hrf2 HM1 HX1 HR1
  go_loopw [] (fun wr => wr = W) (fun wr => 0)
  case atStart => rfl
  case round =>
    subst hrel
    have hk1 := (unhide HRW).c1; have hk2 := (unhide HRW).c2; have hkf := (unhide HRW).free 1
    have f0 := (boxAt (unhide HXA) 0).1; have f1 := (boxAt (unhide HXA) 1).1; have f2 := (boxAt (unhide HXA) 2).1; have f3 := (boxAt (unhide HXA) 3).1; have f4 := (boxAt (unhide HXA) 4).1
    have g0 := (boxAt (unhide HXA) 0).2; have g1 := (boxAt (unhide HXA) 1).2; have g2 := (boxAt (unhide HXA) 2).2; have g3 := (boxAt (unhide HXA) 3).2; have g4 := (boxAt (unhide HXA) 4).2
    have k0 := (boxAt (unhide HXB) 0).1; have k1 := (boxAt (unhide HXB) 1).1; have k2 := (boxAt (unhide HXB) 2).1; have k3 := (boxAt (unhide HXB) 3).1; have k4 := (boxAt (unhide HXB) 4).1
    simp at f0 f1 f2 f3 f4 k0 k1 k2 k3 k4
    have hp2 : (p : Int) + 1 ≤ 2001 := by omega
    have hpc : ((p + 1 : Nat) : Int) = (p : Int) + 1 := by omega
    rw [hpc] at hk1
    go_wp2_with fail
    exact bodyPost_ret (v := vaV 3 0 ⟨#[]⟩ none 0 0 none 0 0) (by simp [results, Tryd.results34, go_sem, f0, f1, f2, f3, f4]) rfl ⟨set5 (movedSet (unhide HMW) _ _) (Nat.le_refl _) _ _ _ _ _, 3, 0, ⟨#[]⟩, none, 0, 0, none, 0, 0, p + 2, rfl, by omega, ((unhide HRW).at2).keep (below5 (by omega) _ _ _ _ _)⟩
set_option maxRecDepth 100000 in
set_option maxHeartbeats 1000000 in
theorem value_deep_dict (D : Nat) (w : World) (rb : Nat) (A : Option Addr) (c : Nat) (l : List UInt8) (p : Nat) (b : UInt8) (h : RR w rb A c l p false) (hb : l[p]? = some b) (hbi : b.toNat = 100) :
    Calls Tryd.prog 34 #[.pointer (some ⟨rb, 0, none⟩), .int .i64 16] w (RVal rb A c l D none w) := by
  have hlt := h.lt
  have hl := h.2.2
  have hpl : p < l.length := (List.getElem?_eq_some_iff.1 hb).1
  have HF := hide (fun (W : World) (hW : RR W rb A c l p false) => next_some W rb A c l p false b hW hb)
  have hR0 := h.below ((Below.refl w.heap.size w).alloc (Nat.le_refl _) (.cells zeroCells 25))
  have HR0 := hide hR0
  have b105 : ((b.toNat : Int) == 105) = false := by simp; omega
  have b108 : ((b.toNat : Int) != 108) = true := by simp; omega
  have b100 : ((b.toNat : Int) == 100) = true := by simp; omega
  have b100' : ((b.toNat : Int) != 100) = false := by simp; omega
  have hp0 : (0 : Int) ≤ (p : Int) := Int.natCast_nonneg _
  have hp1 : (p : Int) ≤ 2000 := by omega
  clear h hR0 hb
  go_enter Tryd.func34, Tryd.ntmps34
  go_wp2_with fail
  refine ((unhide HF) _ (unhide HR0)).mono ?_; rintro e1 w1 ⟨rfl, hb1⟩
  have hR1 := (unhide HR0).below hb1
  have hx1 := (hb1.block w.heap.size (by simp)).trans (heap_alloc_new _ _)
  have HM1 := hide (World.grownBy.trans (World.grownBy_alloc w (.cells zeroCells 25) (some rb)) (belowGrown rb hb1))
  have hz1 : w.heap.size < w1.heap.size := by have := hb1.size; simp at this; omega
  have hr1 := hR1.c1; have hr2 := hR1.c2; have hrf1 := hR1.free 1; have hrf2 := hR1.free 2
  have f0 := (boxAt hx1 0).1; have f1 := (boxAt hx1 1).1; have f2 := (boxAt hx1 2).1; have f3 := (boxAt hx1 3).1; have f4 := (boxAt hx1 4).1
  have g0 := (boxAt hx1 0).2; have g1 := (boxAt hx1 1).2; have g2 := (boxAt hx1 2).2; have g3 := (boxAt hx1 3).2; have g4 := (boxAt hx1 4).2
  simp at f0 f1 f2 f3 f4
  have HR1 := hide hR1; have HX1 := hide hx1
  have hrb1 : rb < w1.heap.size := by omega
  have hne1 : ¬ rb = w.heap.size := by omega
  have hne2 : ¬ w.heap.size = rb := by omega
  clear hb1 hR1 hx1 HF HR0
  go_wp2_with fail
  have hbase : w1.heap.size = ((w1.setCell ⟨rb, 1, none⟩ (.int .i64 ((p : Int) + 1))).setCell ⟨rb, 2, none⟩ (.bool true)).heap.size := by simp [World.setCell]
  have HRW := hide ((((unhide HR1).at1).mark true).below ((Below.refl _ _).alloc (Nat.le_refl _) (.cells #[.int .i64 4, .int .i64 0, .string ⟨#[]⟩, .slice none 0 0, .slice none 0 0] 25)))
  have hx0 : ((w1.setCell ⟨rb, 1, none⟩ (.int .i64 ((p : Int) + 1))).setCell ⟨rb, 2, none⟩ (.bool true)).heap[w.heap.size]? = some (.cells zeroCells 25 (0, 0)) :=
    (Below.heap_setCell _ _ _ _ (by show w.heap.size ≠ rb; omega)).trans ((Below.heap_setCell _ _ _ _ (by show w.heap.size ≠ rb; omega)).trans (unhide HX1))
  have hxA := (heap_alloc_old ((w1.setCell ⟨rb, 1, none⟩ (.int .i64 ((p : Int) + 1))).setCell ⟨rb, 2, none⟩ (.bool true)) (.cells #[.int .i64 4, .int .i64 0, .string ⟨#[]⟩, .slice none 0 0, .slice none 0 0] 25) (by rw [← hbase]; exact hz1)).trans hx0
  have hxB := heap_alloc_new ((w1.setCell ⟨rb, 1, none⟩ (.int .i64 ((p : Int) + 1))).setCell ⟨rb, 2, none⟩ (.bool true)) (.cells #[.int .i64 4, .int .i64 0, .string ⟨#[]⟩, .slice none 0 0, .slice none 0 0] 25)
  rw [← hbase] at hxB
  have HMW := hide ((movedSet (movedSet (unhide HM1) 1 (.int .i64 ((p : Int) + 1))) 2 (.bool true)).trans (World.grownBy_alloc _ (.cells #[.int .i64 4, .int .i64 0, .string ⟨#[]⟩, .slice none 0 0, .slice none 0 0] 25) (some rb)))
  have HXA := hide hxA; have HXB := hide hxB
  clear hbase hx0 hxA hxB
  revert HRW HXA HXB HMW
  generalize (((w1.setCell ⟨rb, 1, none⟩ (.int .i64 ((p : Int) + 1))).setCell ⟨rb, 2, none⟩ (.bool true)).alloc (.cells #[.int .i64 4, .int .i64 0, .string ⟨#[]⟩, .slice none 0 0, .slice none 0 0] 25)) = W
  intro HRW HMW HXA HXB
  clear f0 f1 f2 f3 f4 g0 g1 g2 g3 g4 hr1 hr2 hrf1 hrf2 HM1 HX1 HR1
  go_loopw [] (fun wr => wr = W) (fun wr => 0)
  case atStart => rfl
  case round =>
    subst hrel
    have hk1 := (unhide HRW).c1; have hk2 := (unhide HRW).c2; have hkf := (unhide HRW).free 1
    have f0 := (boxAt (unhide HXA) 0).1; have f1 := (boxAt (unhide HXA) 1).1; have f2 := (boxAt (unhide HXA) 2).1; have f3 := (boxAt (unhide HXA) 3).1; have f4 := (boxAt (unhide HXA) 4).1
    have g0 := (boxAt (unhide HXA) 0).2; have g1 := (boxAt (unhide HXA) 1).2; have g2 := (boxAt (unhide HXA) 2).2; have g3 := (boxAt (unhide HXA) 3).2; have g4 := (boxAt (unhide HXA) 4).2
    have k0 := (boxAt (unhide HXB) 0).1; have k1 := (boxAt (unhide HXB) 1).1; have k2 := (boxAt (unhide HXB) 2).1; have k3 := (boxAt (unhide HXB) 3).1; have k4 := (boxAt (unhide HXB) 4).1
    simp at f0 f1 f2 f3 f4 k0 k1 k2 k3 k4
    have hp2 : (p : Int) + 1 ≤ 2001 := by omega
    have hpc : ((p + 1 : Nat) : Int) = (p : Int) + 1 := by omega
    rw [hpc] at hk1
    go_wp2_with fail
    exact bodyPost_ret (v := vaV 4 0 ⟨#[]⟩ none 0 0 none 0 0) (by simp [results, Tryd.results34, go_sem, f0, f1, f2, f3, f4]) rfl ⟨set5 (movedSet (unhide HMW) _ _) (Nat.le_refl _) _ _ _ _ _, 4, 0, ⟨#[]⟩, none, 0, 0, none, 0, 0, p + 2, rfl, by omega, ((unhide HRW).at2).keep (below5 (by omega) _ _ _ _ _)⟩
end Go.Proofs.YtclpbjdnollfcaaDoor
