/- Contracts over the codec's program, each for every value that is not nested too deeply: depth, Check. -/
import Derived.Test.YtclpbjdnollfcaaDoorCodWell
namespace Go.Proofs.YtclpbjdnollfcaaDoor
set_option linter.unusedSimpArgs false
set_option linter.unusedVariables false
open Go.RowKit

mutual
def Va.dep : Va → Nat
  | .mk k _ _ l _ => if k = 1 ∨ k = 2 then 0 else depAll l + 1
def depAll : List Va → Nat
  | [] => 0
  | x :: r => max x.dep (depAll r)
end
mutual
def Va.nest : Va → Nat
  | .mk _ _ _ l _ => nestAll l + 1
def nestAll : List Va → Nat
  | [] => 0
  | x :: r => max x.nest (nestAll r)
end
theorem depAll_take {l : List Va} {i : Nat} {x : Va} (h : l[i]? = some x) : depAll (l.take (i + 1)) = max (depAll (l.take i)) x.dep := by
  induction l generalizing i with
  | nil => simp at h
  | cons y r ih =>
    cases i with
    | zero => simp at h; subst h; simp [depAll]
    | succ i => simp only [List.take_succ_cons, depAll, ih (by simpa using h), Nat.max_assoc]
theorem nest_mem {l : List Va} {i : Nat} {x : Va} (hx : l[i]? = some x) : x.nest ≤ nestAll l := by
  induction l generalizing i with
  | nil => simp at hx
  | cons y r ih =>
    simp only [nestAll]
    cases i with
    | zero => simp at hx; subst hx; exact Nat.le_max_left _ _
    | succ i => exact Nat.le_trans (ih (by simpa using hx)) (Nat.le_max_right _ _)
mutual
theorem dep_nest : (V : Va) → V.dep ≤ V.nest
  | .mk k n s l ks => by
    have := depAll_nest l
    simp only [Va.dep, Va.nest]
    split <;> omega
theorem depAll_nest : (l : List Va) → depAll l ≤ nestAll l
  | [] => Nat.le_refl _
  | x :: r => by
    have h1 := dep_nest x
    have h2 := depAll_nest r
    simp only [depAll, nestAll]
    omega
end

abbrev DepIs (N : Nat) : Prop := ∀ (V : Va), V.sz ≤ N → V.nest ≤ 1000 → ∀ v w, VAt w V v → Calls Tryd.prog 29 #[v] w fun e w' => e = .returned (.int .i64 (V.dep : Int)) ∧ Below w.heap.size w w'

set_option maxHeartbeats 2000000 in
theorem dep_step (N : Nat) (ih : Hid (DepIs N)) (k n : Int) (s : ByteArray) (l : List Va) (ks : List ByteArray) (A : Option Addr) (c : Nat) (A' : Option Addr) (c' : Nat) (m m' : Nat) (w : World)
    (HN : Hid (Va.sz (Va.mk k n s l ks) ≤ N + 1)) (HD : Hid (Va.nest (Va.mk k n s l ks) ≤ 1000)) (hm : m ≤ 140737488351232) (HL : Hid (l.length = m)) (HE : Hid (ElsAt w A l)) :
    Calls Tryd.prog 29 #[vaV k n s A m c A' m' c'] w fun e w' => e = .returned (.int .i64 (Va.dep (.mk k n s l ks) : Int)) ∧ Below w.heap.size w w' := by
  by_cases hk1 : k = 1
  · subst hk1
    go_enter Tryd.func29, Tryd.ntmps29
    go_wp2_with fail
    go_ret
    exact ⟨retI (by simp [Va.dep]), by go_grown⟩
  by_cases hk2 : k = 2
  · subst hk2
    go_enter Tryd.func29, Tryd.ntmps29
    go_wp2_with fail
    go_ret
    exact ⟨retI (by simp [Va.dep]), by go_grown⟩
  have hdv : Va.dep (.mk k n s l ks) = depAll l + 1 := by simp [Va.dep, hk1, hk2]
  have hbk1 : (k == 1) = false := by simpa using hk1
  have hbk2 : (k == 2) = false := by simpa using hk2
  rw [hdv]
  have hnl : nestAll l ≤ 1000 := by have := unhide HD; simp only [Va.nest] at this; omega
  have hdl := depAll_nest l
  by_cases h0 : 0 < m
  · obtain ⟨b, o, rfl, hbw, hr⟩ := (unhide HE).row (by rw [unhide HL]; exact h0)
    have HR := hide hr; have HV := hide hdv; clear hr hdv hk1 hk2
    go_enter Tryd.func29, Tryd.ntmps29
    go_wp2_with fail
    go_loopw [3, 17] (fun d i wr => ∃ j : Nat, j ≤ m ∧ i = .int .i64 j ∧ d = .int .i64 (depAll (l.take j) : Int) ∧ Below w.heap.size w wr) (fun _ i _ => m - (intOf i).toNat)
    case atStart => exact ⟨0, Nat.zero_le _, rfl, rfl, by go_grown⟩
    case round =>
      obtain ⟨j, hj, rfl, rfl, hb⟩ := hrel
      have HB := hide hb; clear hb
      by_cases hlt : j < m
      · obtain ⟨x, hx⟩ : ∃ x, l[j]? = some x := ⟨_, List.getElem?_eq_getElem (by rw [unhide HL]; exact hlt)⟩
        obtain ⟨k1, n1, s1, A1, m1, c1, A2, m2, c2, d0, d1, d2, d3, d4, hv⟩ := (unhide HR) j x hx
        rw [← (unhide HB).cell (p := ⟨b, o + j * 5, none⟩) hbw] at d0
        rw [← (unhide HB).cell (p := ⟨b, o + j * 5 + 1, none⟩) hbw] at d1
        rw [← (unhide HB).cell (p := ⟨b, o + j * 5 + 2, none⟩) hbw] at d2
        rw [← (unhide HB).cell (p := ⟨b, o + j * 5 + 3, none⟩) hbw] at d3
        rw [← (unhide HB).cell (p := ⟨b, o + j * 5 + 4, none⟩) hbw] at d4
        have hxn := nest_mem hx
        have hW := fun (W : World) (hW : Below wr.heap.size wr W) => (unhide ih) x (sz_mem (unhide HN) hx) (by omega) _ W ((hv.later (unhide HB)).later hW)
        have hst := depAll_take hx
        have hxd := dep_nest x
        generalize x.dep = dx at hW hst hxd
        generalize hdj : depAll (l.take j) = dj at hst ⊢
        have HDJ := hide hdj
        have HW := hide hW; have HST := hide hst; clear hW hst hx hv hdj
        by_cases hcm : dj < dx
        · go_wp2_with (go_at_call 29; refine ((unhide HW) _ (by go_grown)).mono ?_; rintro e w2 ⟨rfl, hb2⟩; have HB2 := hide hb2; clear hb2)
          go_roundw
          case rel => exact ⟨j + 1, by omega, by go_num, by rw [unhide HST, Nat.max_eq_right (by omega)], advB (unhide HB) (unhide HB2)⟩
          case measure => simp [intOf]; omega
        · go_wp2_with (go_at_call 29; refine ((unhide HW) _ (by go_grown)).mono ?_; rintro e w2 ⟨rfl, hb2⟩; have HB2 := hide hb2; clear hb2)
          go_roundw
          case rel => exact ⟨j + 1, by omega, by go_num, by rw [unhide HST, Nat.max_eq_left (by omega)], advB (unhide HB) (unhide HB2)⟩
          case measure => simp [intOf]; omega
      · have htl : l.take j = l := List.take_of_length_le (by rw [unhide HL]; omega)
        rw [htl]
        generalize hdl2 : depAll l = dl at hdl ⊢
        have HDL := hide hdl2
        clear htl hdl2
        go_wp2_with fail
        go_ret
        exact ⟨retI (by have := unhide HDL; omega), unhide HB⟩
  · have e0 : l = [] := List.length_eq_zero_iff.1 (by rw [unhide HL]; omega)
    obtain rfl : m = 0 := by omega
    subst e0
    clear hdv hk1 hk2
    go_enter Tryd.func29, Tryd.ntmps29
    go_wp2_with fail
    go_loopw [3, 17] (fun d i wr => d = .int .i64 0 ∧ i = .int .i64 0 ∧ Below w.heap.size w wr) (fun _ _ _ => 0)
    case atStart => exact ⟨rfl, rfl, by go_grown⟩
    case round =>
      obtain ⟨rfl, rfl, hb⟩ := hrel
      go_wp2_with fail
      go_ret
      exact ⟨rfl, hb⟩

theorem dep_all (N : Nat) : DepIs N := by
  induction N with
  | zero => intro V hV; have := sz_pos V; omega
  | succ N ih =>
    intro V hV hn v w h
    obtain ⟨k, n, s, l, ks, A, c, A', c', rfl, rfl, _, _, _, h1, h2, _, _, hE, hS⟩ := h.open
    exact dep_step N ih k n s l ks A c A' c' l.length ks.length w hV hn h1 rfl hE
theorem dep_any (V : Va) (hn : V.nest ≤ 1000) (v : Value) (w : World) (h : VAt w V v) : Calls Tryd.prog 29 #[v] w fun e w' => e = .returned (.int .i64 (V.dep : Int)) ∧ Below w.heap.size w w' := dep_all V.sz V (Nat.le_refl _) hn v w h

def chkE (V : Va) : Int := if V.wf then (if V.dep ≤ 16 then 0 else 2) else 1

set_option maxHeartbeats 1000000 in
theorem check_any (V : Va) (hn : V.nest ≤ 1000) (v : Value) (w : World) (h : VAt w V v) : Calls Tryd.prog 14 #[v] w fun e w' => e = .returned (.int .i64 (chkE V)) ∧ Below w.heap.size w w' := by
  have hw := fun (W : World) (hW : Below w.heap.size w W) => wf_any V v W (h.later hW)
  have hd := fun (W : World) (hW : Below w.heap.size w W) => dep_any V hn v W (h.later hW)
  obtain ⟨k, n, s, l, ks, A, c, A', c', hV, rfl, _⟩ := h.open
  have hdn := dep_nest V
  cases hwf : V.wf
  · rw [hwf] at hw
    have he : chkE V = 1 := by simp [chkE, hwf]
    rw [he]
    have HW := hide hw; clear hw he hwf hd
    go_enter Tryd.func14, Tryd.ntmps14
    go_wp2_with (go_at_call 28; refine ((unhide HW) _ (by go_grown)).mono ?_; rintro e w1 ⟨rfl, hb1⟩)
    go_ret
    exact ⟨rfl, advB (Below.refl _ _) hb1⟩
  · rw [hwf] at hw
    have he : chkE V = if V.dep ≤ 16 then 0 else 2 := by simp [chkE, hwf]
    rw [he]
    generalize V.dep = d at hd hdn ⊢
    have HW := hide hw; have HD := hide hd; clear hw he hwf hd
    by_cases h16 : d ≤ 16
    · rw [if_pos h16]
      have hdc : decide ((16 : Int) < (d : Int)) = false := decide_eq_false (by omega)
      go_enter Tryd.func14, Tryd.ntmps14
      go_wp2_with (go_at_call 28; refine ((unhide HW) _ (by go_grown)).mono ?_; rintro e w1 ⟨rfl, hb1⟩; obtain ⟨hc, hf⟩ := oldCells hb1; have hz : w.heap.size < w1.heap.size := by have := hb1.size; simp at this; omega)
      have HB := hide (advB (Below.refl _ _) hb1)
      clear hb1
      go_wp2_with (go_at_call 29; refine ((unhide HD) _ (unhide HB)).mono ?_; rintro e w2 ⟨rfl, hb2⟩)
      go_ret
      exact ⟨rfl, thenB (unhide HB) hb2⟩
    · rw [if_neg h16]
      have hdc : decide ((16 : Int) < (d : Int)) = true := decide_eq_true (by omega)
      go_enter Tryd.func14, Tryd.ntmps14
      go_wp2_with (go_at_call 28; refine ((unhide HW) _ (by go_grown)).mono ?_; rintro e w1 ⟨rfl, hb1⟩; obtain ⟨hc, hf⟩ := oldCells hb1; have hz : w.heap.size < w1.heap.size := by have := hb1.size; simp at this; omega)
      have HB := hide (advB (Below.refl _ _) hb1)
      clear hb1
      go_wp2_with (go_at_call 29; refine ((unhide HD) _ (unhide HB)).mono ?_; rintro e w2 ⟨rfl, hb2⟩)
      go_ret
      exact ⟨rfl, thenB (unhide HB) hb2⟩
end Go.Proofs.YtclpbjdnollfcaaDoor
