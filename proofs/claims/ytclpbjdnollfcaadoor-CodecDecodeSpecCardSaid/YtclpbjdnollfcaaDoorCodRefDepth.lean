/- Contracts over the codec's program, each for every value: the reference's Depth, Check. -/
import Derived.Test.YtclpbjdnollfcaaDoorCodRefCheck
namespace Go.Proofs.YtclpbjdnollfcaaDoor
set_option linter.unusedSimpArgs false
set_option linter.unusedVariables false
open Go.RowKit

abbrev RDepIs (N : Nat) : Prop := ∀ (V : Va), V.sz ≤ N → V.nest ≤ 1000 → ∀ v w, VAt w V v → Calls Tryd.prog 31 #[v] w fun e w' => e = .returned (.int .i64 (V.dep : Int)) ∧ Below w.heap.size w w'

theorem depAll_take_le : ∀ (l : List Va) (j : Nat), depAll (l.take j) ≤ depAll l
  | [], j => by simp [depAll]
  | y :: r, 0 => by simp [depAll]
  | y :: r, j + 1 => by
    have := depAll_take_le r j
    simp only [List.take_succ_cons, depAll]
    omega
set_option maxRecDepth 100000 in
set_option maxHeartbeats 8000000 in
theorem rdep_step (N : Nat) (ih : Hid (RDepIs N)) (k n : Int) (s : ByteArray) (l : List Va) (ks : List ByteArray) (A : Option Addr) (c : Nat) (A' : Option Addr) (c' : Nat) (m m' : Nat) (w : World)
    (HN : Hid (Va.sz (Va.mk k n s l ks) ≤ N + 1)) (HD : Hid (Va.nest (Va.mk k n s l ks) ≤ 1000)) (hm : m ≤ 140737488351232) (HL : Hid (l.length = m)) (HE : Hid (ElsAt w A l)) :
    Calls Tryd.prog 31 #[vaV k n s A m c A' m' c'] w fun e w' => e = .returned (.int .i64 (Va.dep (.mk k n s l ks) : Int)) ∧ Below w.heap.size w w' := by
  by_cases hk1 : k = 1
  · subst hk1
    go_enter Tryd.func31, Tryd.ntmps31
    go_wp2_with fail
    go_ret
    exact ⟨retI (by simp [Va.dep]), by go_grown⟩
  by_cases hk2 : k = 2
  · subst hk2
    go_enter Tryd.func31, Tryd.ntmps31
    go_wp2_with fail
    go_ret
    exact ⟨retI (by simp [Va.dep]), by go_grown⟩
  have hdv : Va.dep (.mk k n s l ks) = depAll l + 1 := by simp [Va.dep, hk1, hk2]
  have hbk1 : (k == 1) = false := by simpa using hk1
  have hbk2 : (k == 2) = false := by simpa using hk2
  rw [hdv]
  have hnl : nestAll l ≤ 1000 := by have := unhide HD; simp only [Va.nest] at this; omega
  have HNL := hide hnl
  have hdl := depAll_nest l
  have HDL0 := hide hdl
  clear hdv hk1 hk2 hnl hdl
  go_enter Tryd.func31, Tryd.ntmps31
  go_wp2_with fail
  go_loopw [3, 4] (fun d i wr => ∃ j : Nat, j ≤ m ∧ i = .int .i64 (j : Int) ∧ d = .int .i64 (depAll (l.take j) : Int) ∧ Below (w.alloc (.cells #[.int .i64 k, .int .i64 n, .string s, .slice A m c, .slice A' m' c'] 25)).heap.size (w.alloc (.cells #[.int .i64 k, .int .i64 n, .string s, .slice A m c, .slice A' m' c'] 25)) wr) (fun _ i _ => m - (intOf i).toNat)
  case atStart => exact ⟨0, Nat.zero_le _, rfl, rfl, Below.refl _ _⟩
  case round =>
    obtain ⟨j, hj, rfl, rfl, hbr⟩ := hrel
    have hX := (hbr.block w.heap.size (by simp)).trans (heap_alloc_new w _)
    have HBR := hide (advB (Below.refl _ _) hbr); have HB0 := hide hbr
    have f0 := (boxAt hX 0).1; have f1 := (boxAt hX 1).1; have f2 := (boxAt hX 2).1; have f3 := (boxAt hX 3).1; have f4 := (boxAt hX 4).1
    simp at f0 f1 f2 f3 f4
    clear hbr hX
    by_cases hlt : j < m
    · obtain ⟨x, hx⟩ : ∃ x, l[j]? = some x := ⟨_, List.getElem?_eq_getElem (by rw [unhide HL]; exact hlt)⟩
      obtain ⟨b, o, k1, n1, s1, A1, m1, c1, A2, m2, c2, rfl, d0, d1, d2, d3, d4, hv⟩ := (unhide HE) j x hx
      have hbw := World.block_lt_of_cell? w _ d0
      simp only at hbw
      rw [← (unhide HBR).cell (p := ⟨b, o + j * 5, none⟩) hbw] at d0
      rw [← (unhide HBR).cell (p := ⟨b, o + j * 5 + 1, none⟩) hbw] at d1
      rw [← (unhide HBR).cell (p := ⟨b, o + j * 5 + 2, none⟩) hbw] at d2
      rw [← (unhide HBR).cell (p := ⟨b, o + j * 5 + 3, none⟩) hbw] at d3
      rw [← (unhide HBR).cell (p := ⟨b, o + j * 5 + 4, none⟩) hbw] at d4
      have hxn := nest_mem hx
      have hW := (unhide ih) x (sz_mem (unhide HN) hx) (by have := unhide HNL; omega) _ wr (hv.later (unhide HBR))
      have hst := depAll_take hx
      have hxd := dep_nest x
      have hx1000 : x.dep ≤ 1000 := by have := unhide HNL; omega
      have hdj1000 : depAll (l.take j) ≤ 1000 := by
        have h1 := depAll_take_le l j
        have := unhide HNL; have := unhide HDL0
        omega
      generalize x.dep = dx at hW hst hx1000
      generalize hdj : depAll (l.take j) = dj at hst hdj1000 ⊢
      have HW := hide hW; have HST := hide hst; clear hW hst hx hv hdj hxd
      have hj0 : (0 : Int) ≤ (j : Int) := Int.natCast_nonneg _
      have hjm : (j : Int) < (m : Int) := by omega
      by_cases hcm : dj < dx
      · go_wp2_with fail
        refine (unhide HW).mono ?_; rintro e w2 ⟨rfl, hb2⟩
        have HB2 := hide ((unhide HB0).trans (hb2.mono (unhide HB0).size)); clear hb2
        have hmax : max (dj : Int) (dx : Int) = (dx : Int) := by omega
        go_wp2_with fail
        go_roundw
        case rel => exact ⟨j + 1, by omega, by go_num, by rw [unhide HST, Nat.max_eq_right (by omega)], unhide HB2⟩
        case measure => simp [intOf]; omega
      · go_wp2_with fail
        refine (unhide HW).mono ?_; rintro e w2 ⟨rfl, hb2⟩
        have HB2 := hide ((unhide HB0).trans (hb2.mono (unhide HB0).size)); clear hb2
        have hmax : max (dj : Int) (dx : Int) = (dj : Int) := by omega
        go_wp2_with fail
        go_roundw
        case rel => exact ⟨j + 1, by omega, by go_num, by rw [unhide HST, Nat.max_eq_left (by omega)], unhide HB2⟩
        case measure => simp [intOf]; omega
    · have htl : l.take j = l := List.take_of_length_le (by rw [unhide HL]; omega)
      rw [htl]
      have hd1000 : depAll l ≤ 1000 := by have := unhide HNL; have := unhide HDL0; omega
      clear HDL0
      generalize hdl2 : depAll l = dl at hd1000 ⊢
      have HDL := hide hdl2
      clear htl hdl2
      go_wp2_with fail
      go_ret
      exact ⟨retI (by have := unhide HDL; omega), unhide HBR⟩
theorem rdep_all (N : Nat) : RDepIs N := by
  induction N with
  | zero => intro V hV; have := sz_pos V; omega
  | succ N ih =>
    intro V hV hn v w h
    obtain ⟨k, n, s, l, ks, A, c, A', c', rfl, rfl, _, _, _, h1, h2, _, _, hE, hS⟩ := h.open
    exact rdep_step N ih k n s l ks A c A' c' l.length ks.length w hV hn h1 rfl hE
theorem rdep_any (V : Va) (hn : V.nest ≤ 1000) (v : Value) (w : World) (h : VAt w V v) : Calls Tryd.prog 31 #[v] w fun e w' => e = .returned (.int .i64 (V.dep : Int)) ∧ Below w.heap.size w w' := rdep_all V.sz V (Nat.le_refl _) hn v w h

set_option maxHeartbeats 1000000 in
theorem rcheck_any (V : Va) (hn : V.nest ≤ 1000) (v : Value) (w : World) (h : VAt w V v) : Calls Tryd.prog 15 #[v] w fun e w' => e = .returned (.int .i64 (chkE V)) ∧ Below w.heap.size w w' := by
  have hw := fun (W : World) (hW : Below w.heap.size w W) => rformed_any V v W (h.later hW)
  have hd := fun (W : World) (hW : Below w.heap.size w W) => rdep_any V hn v W (h.later hW)
  obtain ⟨k, n, s, l, ks, A, c, A', c', hV, rfl, _⟩ := h.open
  have hdn := dep_nest V
  cases hwf : V.wf
  · rw [hwf] at hw
    have he : chkE V = 1 := by simp [chkE, hwf]
    rw [he]
    have HW := hide hw; clear hw he hwf hd
    go_enter Tryd.func15, Tryd.ntmps15
    go_wp2_with (go_at_call 30; refine ((unhide HW) _ (by go_grown)).mono ?_; rintro e w1 ⟨rfl, hb1⟩)
    go_ret
    exact ⟨rfl, advB (Below.refl _ _) hb1⟩
  · rw [hwf] at hw
    have he : chkE V = if V.dep ≤ 16 then 0 else 2 := by simp [chkE, hwf]
    rw [he]
    generalize V.dep = d at hd hdn ⊢
    have HW := hide hw; have HD := hide hd; clear hw he hwf hd
    by_cases h16 : d ≤ 16
    · rw [if_pos h16]
      have hdc : decide ((16 : Int) < (d : Int)) = false := decide_eq_false (by omega)
      go_enter Tryd.func15, Tryd.ntmps15
      go_wp2_with (go_at_call 30; refine ((unhide HW) _ (by go_grown)).mono ?_; rintro e w1 ⟨rfl, hb1⟩; obtain ⟨hc, hf⟩ := oldCells hb1; have hz : w.heap.size < w1.heap.size := by have := hb1.size; simp at this; omega)
      have HB := hide (advB (Below.refl _ _) hb1)
      clear hb1
      go_wp2_with (go_at_call 31; refine ((unhide HD) _ (unhide HB)).mono ?_; rintro e w2 ⟨rfl, hb2⟩)
      go_ret
      exact ⟨rfl, thenB (unhide HB) hb2⟩
    · rw [if_neg h16]
      have hdc : decide ((16 : Int) < (d : Int)) = true := decide_eq_true (by omega)
      go_enter Tryd.func15, Tryd.ntmps15
      go_wp2_with (go_at_call 30; refine ((unhide HW) _ (by go_grown)).mono ?_; rintro e w1 ⟨rfl, hb1⟩; obtain ⟨hc, hf⟩ := oldCells hb1; have hz : w.heap.size < w1.heap.size := by have := hb1.size; simp at this; omega)
      have HB := hide (advB (Below.refl _ _) hb1)
      clear hb1
      go_wp2_with (go_at_call 31; refine ((unhide HD) _ (unhide HB)).mono ?_; rintro e w2 ⟨rfl, hb2⟩)
      go_ret
      exact ⟨rfl, thenB (unhide HB) hb2⟩
end Go.Proofs.YtclpbjdnollfcaaDoor
