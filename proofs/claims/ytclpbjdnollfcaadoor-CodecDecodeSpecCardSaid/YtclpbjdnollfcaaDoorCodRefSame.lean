/- Contracts over the codec's program, each for every two values: the reference's Same. -/
import Derived.Test.YtclpbjdnollfcaaDoorCodSame2
import Derived.Deep.RegionWith
import Derived.Deep.RegionHeld3
namespace Go.Proofs.YtclpbjdnollfcaaDoor
set_option linter.unusedSimpArgs false
set_option linter.unusedVariables false
open Go.RowKit

abbrev RSameIs (N : Nat) : Prop := ∀ (V V' : Va), V.sz ≤ N → ∀ v v' w, VAt w V v → VAt w V' v' → Calls Tryd.prog 18 #[v, v'] w fun e w' => e = .returned (.bool (V.same V')) ∧ Below w.heap.size w w'

set_option maxHeartbeats 4000000 in
theorem rsame_heads (k n : Int) (s : ByteArray) (A : Option Addr) (m c : Nat) (A' : Option Addr) (m' c' : Nat) (k2 n2 : Int) (s2 : ByteArray) (B : Option Addr) (p d : Nat) (B' : Option Addr) (p' d' : Nat) (w : World)
    (h : k ≠ k2 ∨ n ≠ n2 ∨ s ≠ s2 ∨ m ≠ p ∨ m' ≠ p') :
    Calls Tryd.prog 18 #[vaV k n s A m c A' m' c', vaV k2 n2 s2 B p d B' p' d'] w fun e w' => e = .returned (.bool false) ∧ Below w.heap.size w w' := by
  by_cases h1 : k = k2
  · subst h1
    by_cases h2 : n = n2
    · subst h2
      by_cases h3 : s = s2
      · subst h3
        by_cases h4 : m = p
        · subst h4
          have h5 : m' ≠ p' := by simpa using h
          have hb : ((m' : Int) != (p' : Int)) = true := by simp; omega
          go_enter Tryd.func18, Tryd.ntmps18
          go_wp2_with fail
          go_ret
          exact ⟨rfl, by go_grown⟩
        · have hb : ((m : Int) != (p : Int)) = true := by simp; omega
          go_enter Tryd.func18, Tryd.ntmps18
          go_wp2_with fail
          go_ret
          exact ⟨rfl, by go_grown⟩
      · have hls : ¬ s.toList = s2.toList := fun h => h3 (toList_inj h)
        have hnb : (!(s.toList == s2.toList)) = true := by simp [hls]
        go_enter Tryd.func18, Tryd.ntmps18
        go_wp2_with fail
        go_ret
        exact ⟨rfl, by go_grown⟩
    · have hb : (n != n2) = true := by simpa using h2
      go_enter Tryd.func18, Tryd.ntmps18
      go_wp2_with fail
      go_ret
      exact ⟨rfl, by go_grown⟩
  · have hb : (k != k2) = true := by simpa using h1
    go_enter Tryd.func18, Tryd.ntmps18
    go_wp2_with fail
    go_ret
    exact ⟨rfl, by go_grown⟩

theorem heap_snd (w : World) (a b : Obj) : ((w.alloc a).alloc b).heap[w.heap.size + 1]? = some b := by
  have e : w.heap.size + 1 = (w.alloc a).heap.size := by simp
  rw [e]
  exact heap_alloc_new _ _
theorem boxOf {W : World} {N : Nat} {cs : Array Value} {t : TypeId} (h : W.heap[N]? = some (.cells cs t (0, 0))) : ∀ i, W.cell? ⟨N, i, none⟩ = cs[i]? ∧ W.frozen? ⟨N, i, none⟩ = false := fun i =>
  ⟨cell_of_row W N i cs t (0, 0) h, frozen_of_row W N i cs t h⟩
set_option maxRecDepth 100000 in
set_option maxHeartbeats 8000000 in
theorem rsame_rest (N : Nat) (ih : Hid (RSameIs N)) (k n : Int) (s : ByteArray) (A : Option Addr) (m c : Nat) (A' : Option Addr) (m' c' : Nat) (B : Option Addr) (d : Nat) (B' : Option Addr) (d' : Nat) (l l2 : List Va) (ks ks2 : List ByteArray) (w : World)
    (HN : Hid (szAll l ≤ N)) (hm : m ≤ 140737488351232) (hm' : m' ≤ 140737488351232) (HL : Hid (l.length = m ∧ l2.length = m ∧ ks.length = m' ∧ ks2.length = m'))
    (HE : Hid (ElsAt w A l)) (HE2 : Hid (ElsAt w B l2)) (HS : Hid (StrsAt w A' ks)) (HS2 : Hid (StrsAt w B' ks2)) :
    Calls Tryd.prog 18 #[vaV k n s A m c A' m' c', vaV k n s B m d B' m' d'] w fun e w' => e = .returned (.bool (decide (ks = ks2) && sameL l l2)) ∧ Below w.heap.size w w' := by
  go_enter Tryd.func18, Tryd.ntmps18
  go_wp2_with fail
  go_loopw [5] (fun i wr => ∃ j : Nat, j ≤ m' ∧ i = .int .i64 (j : Int) ∧ ks.take j = ks2.take j ∧ Below ((w.alloc (.cells #[.int .i64 k, .int .i64 n, .string s, .slice A m c, .slice A' m' c'] 25)).alloc (.cells #[.int .i64 k, .int .i64 n, .string s, .slice B m d, .slice B' m' d'] 25)).heap.size ((w.alloc (.cells #[.int .i64 k, .int .i64 n, .string s, .slice A m c, .slice A' m' c'] 25)).alloc (.cells #[.int .i64 k, .int .i64 n, .string s, .slice B m d, .slice B' m' d'] 25)) wr) (fun i _ => m' - (intOf i).toNat)
  case atStart => exact ⟨0, Nat.zero_le _, rfl, rfl, Below.refl _ _⟩
  case round =>
    obtain ⟨j, hj, rfl, htk, hbr⟩ := hrel
    have HT := hide htk; clear htk
    have hX := (hbr.block w.heap.size (by simp; omega)).trans ((heap_alloc_old _ _ (by simp)).trans (heap_alloc_new w _))
    have hY := (hbr.block (w.heap.size + 1) (by simp)).trans (heap_snd w _ _)
    have HB0 := hide hbr
    have HBR := hide (((Below.refl w.heap.size w).alloc (Nat.le_refl _) _).alloc (by simp) _ |>.trans (hbr.mono (by simp; omega)))
    clear hbr
    have x4 := (boxOf hX 4).1; have y4 := (boxOf hY 4).1
    simp at x4 y4
    clear hX hY
    by_cases hlt : j < m'
    · obtain ⟨s0, hs0⟩ : ∃ x, ks[j]? = some x := ⟨_, List.getElem?_eq_getElem (by rw [(unhide HL).2.2.1]; exact hlt)⟩
      obtain ⟨s1, hs1⟩ : ∃ x, ks2[j]? = some x := ⟨_, List.getElem?_eq_getElem (by rw [(unhide HL).2.2.2]; exact hlt)⟩
      obtain ⟨b, o, rfl, c0, _⟩ := (unhide HS) j s0 hs0
      obtain ⟨b2, o2, rfl, c1, _⟩ := (unhide HS2) j s1 hs1
      have hb := World.block_lt_of_cell? w _ c0
      have hb2 := World.block_lt_of_cell? w _ c1
      simp only at hb hb2
      rw [← (unhide HBR).cell (p := ⟨b, o + j, none⟩) hb] at c0
      rw [← (unhide HBR).cell (p := ⟨b2, o2 + j, none⟩) hb2] at c1
      have hj0 : (0 : Int) ≤ (j : Int) := Int.natCast_nonneg _
      have hjm : (j : Int) < (m' : Int) := by omega
      have hk1 : ks.take (j + 1) = ks.take j ++ [s0] := by rw [List.take_add_one, hs0]; rfl
      have hk2 : ks2.take (j + 1) = ks2.take j ++ [s1] := by rw [List.take_add_one, hs1]; rfl
      by_cases heq : s0 = s1
      · subst heq
        have HTK := hide (show ks.take (j + 1) = ks2.take (j + 1) by rw [hk1, hk2, unhide HT])
        clear hs0 hs1 hk1 hk2
        go_wp2_with fail
        go_quiet (fail)
        go_wp2_with fail
        go_roundw
        case rel => exact ⟨j + 1, by omega, by go_num, unhide HTK, belowDrewN _ (unhide HB0)⟩
        case measure => simp [intOf]; omega
      · have hne : ks ≠ ks2 := fun e => heq (by rw [e, hs1] at hs0; injection hs0 with h; exact h.symm)
        have HNE := hide hne
        have hls : ¬ s0.toList = s1.toList := fun h => heq (toList_inj h)
        have hnb : (!(s0.toList == s1.toList)) = true := by simp [hls]
        clear hs0 hs1 hk1 hk2 hne heq
        go_wp2_with fail
        go_quiet (fail)
        go_wp2_with fail
        go_ret
        exact ⟨retB (by simp [unhide HNE]), belowDrewN _ (unhide HBR)⟩
    · have hjm : m' = j := by omega
      subst hjm
      have hkk : ks = ks2 := by
        have h := unhide HT
        rwa [List.take_of_length_le (by rw [(unhide HL).2.2.1]; omega), List.take_of_length_le (by rw [(unhide HL).2.2.2]; omega)] at h
      have HKK := hide hkk
      clear hkk HT
      have HB1 := HBR
      clear HBR
      go_wp2_with fail
      go_loopw [6] (fun i wr => ∃ j : Nat, j ≤ m ∧ i = .int .i64 (j : Int) ∧ sameL (l.take j) (l2.take j) = true ∧ Below ((w.alloc (.cells #[.int .i64 k, .int .i64 n, .string s, .slice A m c, .slice A' m' c'] 25)).alloc (.cells #[.int .i64 k, .int .i64 n, .string s, .slice B m d, .slice B' m' d'] 25)).heap.size ((w.alloc (.cells #[.int .i64 k, .int .i64 n, .string s, .slice A m c, .slice A' m' c'] 25)).alloc (.cells #[.int .i64 k, .int .i64 n, .string s, .slice B m d, .slice B' m' d'] 25)) wr) (fun i _ => m - (intOf i).toNat)
      case atStart => exact ⟨0, Nat.zero_le _, rfl, rfl, unhide HB0⟩
      case round =>
        obtain ⟨j2, hj2, rfl, htk, hbr⟩ := hrel
        have HT := hide htk; clear htk
        have hX := (hbr.block w.heap.size (by simp; omega)).trans ((heap_alloc_old _ _ (by simp)).trans (heap_alloc_new w _))
        have hY := (hbr.block (w.heap.size + 1) (by simp)).trans (heap_snd w _ _)
        have HB0' := hide hbr
        have HBR := hide (((Below.refl w.heap.size w).alloc (Nat.le_refl _) _).alloc (by simp) _ |>.trans (hbr.mono (by simp; omega)))
        clear hbr
        have x3 := (boxOf hX 3).1; have y3 := (boxOf hY 3).1
        simp at x3 y3
        by_cases hlt : j2 < m
        · obtain ⟨x, hx⟩ : ∃ x, l[j2]? = some x := ⟨_, List.getElem?_eq_getElem (by rw [(unhide HL).1]; exact hlt)⟩
          obtain ⟨y, hy⟩ : ∃ x, l2[j2]? = some x := ⟨_, List.getElem?_eq_getElem (by rw [(unhide HL).2.1]; exact hlt)⟩
          obtain ⟨b, o, k1, n1, s1, A1, m1, c1, A2, m2, c2, rfl, d0, d1, d2, d3, d4, hv⟩ := (unhide HE) j2 x hx
          obtain ⟨b2, o2, k3, n3, s3, A3, m3, c3, A4, m4, c4, rfl, f0, f1, f2, f3, f4, hv'⟩ := (unhide HE2) j2 y hy
          have hbw := World.block_lt_of_cell? w _ d0
          have hbw2 := World.block_lt_of_cell? w _ f0
          simp only at hbw hbw2
          rw [← (unhide HBR).cell (p := ⟨b, o + j2 * 5, none⟩) hbw] at d0
          rw [← (unhide HBR).cell (p := ⟨b, o + j2 * 5 + 1, none⟩) hbw] at d1
          rw [← (unhide HBR).cell (p := ⟨b, o + j2 * 5 + 2, none⟩) hbw] at d2
          rw [← (unhide HBR).cell (p := ⟨b, o + j2 * 5 + 3, none⟩) hbw] at d3
          rw [← (unhide HBR).cell (p := ⟨b, o + j2 * 5 + 4, none⟩) hbw] at d4
          rw [← (unhide HBR).cell (p := ⟨b2, o2 + j2 * 5, none⟩) hbw2] at f0
          rw [← (unhide HBR).cell (p := ⟨b2, o2 + j2 * 5 + 1, none⟩) hbw2] at f1
          rw [← (unhide HBR).cell (p := ⟨b2, o2 + j2 * 5 + 2, none⟩) hbw2] at f2
          rw [← (unhide HBR).cell (p := ⟨b2, o2 + j2 * 5 + 3, none⟩) hbw2] at f3
          rw [← (unhide HBR).cell (p := ⟨b2, o2 + j2 * 5 + 4, none⟩) hbw2] at f4
          have hW := fun (W : World) (hW : Below wr.heap.size wr W) => (unhide ih) x y (Nat.le_trans (szAll_mem hx) (unhide HN)) _ _ W ((hv.later (unhide HBR)).later hW) ((hv'.later (unhide HBR)).later hW)
          have hst := sameL_take hx hy (unhide HT)
          have hj0 : (0 : Int) ≤ (j2 : Int) := Int.natCast_nonneg _
          have hjm : (j2 : Int) < (m : Int) := by omega
          cases hq : x.same y
          · rw [hq] at hW hst
            have HW := hide hW; have HST := hide hst; clear hW hst hq hx hv hy hv' hX hY
            go_wp2_with fail
            go_region_with (go_at_call 18; refine ((unhide HW) _ (belowDrewN _ (Below.refl _ _))).mono ?_; rintro e w2 ⟨rfl, hb2⟩)
            all_goals
              have HB2 := hide (thenB (unhide HBR) (Below.trans (belowDrewN 1 (Below.refl _ _)) hb2)); clear hb2
              go_wp2_with fail
              go_ret
              exact ⟨retB (by rw [sameL_not (unhide HST)]; simp), unhide HB2⟩
          · rw [hq] at hW hst
            have HW := hide hW; have HST := hide hst; clear hW hst hq hx hv hy hv' hX hY
            go_wp2_with fail
            go_region_with (go_at_call 18; refine ((unhide HW) _ (belowDrewN _ (Below.refl _ _))).mono ?_; rintro e w2 ⟨rfl, hb2⟩)
            all_goals
              have HB2 := hide (Below.trans (unhide HB0') ((Below.trans (belowDrewN 1 (Below.refl _ _)) hb2).mono (unhide HB0').size)); clear hb2
              go_wp2_with fail
              go_roundw
              case rel => exact ⟨j2 + 1, by omega, by go_num, unhide HST, unhide HB2⟩
              case measure => simp [intOf]; omega
        · have hjm : m = j2 := by omega
          subst hjm
          have hll := unhide HT
          rw [List.take_of_length_le (by rw [(unhide HL).1]; omega), List.take_of_length_le (by rw [(unhide HL).2.1]; omega)] at hll
          have HLL := hide hll
          clear hll HT hX hY
          go_wp2_with fail
          go_ret
          exact ⟨retB (by rw [unhide HLL, unhide HKK]; simp), unhide HBR⟩

theorem rsame_all (N : Nat) : RSameIs N := by
  induction N with
  | zero => intro V V' hV; have := sz_pos V; omega
  | succ N ih =>
    intro V V' hV v v' w h h'
    obtain ⟨k, n, s, l, ks, A, c, A', c', rfl, rfl, _, _, _, h1, h2, _, _, hE, hS⟩ := h.open
    obtain ⟨k2, n2, s2, l2, ks2, B, d, B', d', rfl, rfl, _, _, _, h3, h4, _, _, hE2, hS2⟩ := h'.open
    have hN : szAll l ≤ N := by simp only [Va.sz] at hV; omega
    by_cases hh : k ≠ k2 ∨ n ≠ n2 ∨ s ≠ s2 ∨ l.length ≠ l2.length ∨ ks.length ≠ ks2.length
    · refine (rsame_heads k n s A _ c A' _ c' k2 n2 s2 B _ d B' _ d' w hh).mono ?_
      rintro e w' ⟨rfl, hb⟩
      refine ⟨retB ?_, hb⟩
      cases hq : Va.same (.mk k n s l ks) (.mk k2 n2 s2 l2 ks2) with
      | false => rfl
      | true =>
        have := (same_iff _ _).1 hq
        injection this with e1 e2 e3 e4 e5
        subst e1 e2 e3 e4 e5
        simp at hh
    · have e : k = k2 ∧ n = n2 ∧ s = s2 ∧ l.length = l2.length ∧ ks.length = ks2.length := by
        simp only [not_or, ne_eq, Decidable.not_not] at hh
        exact hh
      obtain ⟨rfl, rfl, rfl, e4, e5⟩ := e
      rw [← e4, ← e5]
      refine (rsame_rest N ih k n s A l.length c A' ks.length c' B d B' d' l l2 ks ks2 w hN h1 h2 ⟨rfl, e4.symm, rfl, e5.symm⟩ hE hE2 hS hS2).mono ?_
      rintro e w' ⟨rfl, hb⟩
      exact ⟨retB (by simp only [Va.same]; simp), hb⟩
theorem rsame_any (V V' : Va) (v v' : Value) (w : World) (h : VAt w V v) (h' : VAt w V' v') : Calls Tryd.prog 18 #[v, v'] w fun e w' => e = .returned (.bool (V.same V')) ∧ Below w.heap.size w w' :=
  rsame_all V.sz V V' (Nat.le_refl _) v v' w h h'
end Go.Proofs.YtclpbjdnollfcaaDoor
