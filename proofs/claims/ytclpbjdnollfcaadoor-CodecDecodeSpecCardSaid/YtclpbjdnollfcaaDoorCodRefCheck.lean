/- Contracts over the codec's program, each for every value: the reference's increasing, Formed, Depth, Check. (Written by wip/tools/gen_rcheck.py.) -/
import Derived.Test.YtclpbjdnollfcaaDoorCodLaw
namespace Go.Proofs.YtclpbjdnollfcaaDoor
set_option linter.unusedSimpArgs false
set_option linter.unusedVariables false
open Go.RowKit

theorem rincr_short (A : Option Addr) (n c : Nat) (w : World) (hn : n ≤ 1) :
    Calls Tryd.prog 46 #[.slice A n c] w fun e w' => e = .returned (.bool true) ∧ w' = w := by
  have hd : decide ((1 : Int) < (n : Int)) = false := decide_eq_false (by omega)
  go_enter Tryd.func46, Tryd.ntmps46
  go_wp2
  go_loop [3] (fun i => i = .int .i64 1) (fun _ => 0)
  case atStart => rfl
  case round =>
    subst hrel
    go_wp2
    go_ret
    exact ⟨rfl, rfl⟩

set_option maxHeartbeats 1000000 in
theorem rincr_rows (b o c n : Nat) (ks : List ByteArray) (w : World) (hl : ks.length = n) (h1 : 1 < n) (hn : n ≤ 140737488351232)
    (h : ∀ i s, ks[i]? = some s → w.cell? ⟨b, o + i, none⟩ = some (.string s)) :
    Calls Tryd.prog 46 #[.slice (some ⟨b, o, none⟩) n c] w fun e w' => e = .returned (.bool (incrB ks)) ∧ ∃ q, w' = w.drewN q := by
  have HL := hide hl; have H := hide h; clear hl h
  go_enter Tryd.func46, Tryd.ntmps46
  go_wp2
  go_loopw [3] (fun i wr => ∃ k : Nat, k + 1 ≤ n ∧ i = .int .i64 ((k + 1 : Nat) : Int) ∧ incrTo ks k = true ∧ ∃ q, wr = w.drewN q) (fun i _ => n - (intOf i).toNat)
  case atStart => exact ⟨0, by omega, rfl, rfl, 0, rfl⟩
  case round =>
    obtain ⟨k, hk, rfl, htk, q, rfl⟩ := hrel
    have HT := hide htk; clear htk
    by_cases hlt : k + 1 < n
    · obtain ⟨s0, hs0⟩ : ∃ x, ks[k]? = some x := ⟨_, List.getElem?_eq_getElem (by rw [unhide HL]; omega)⟩
      obtain ⟨s1, hs1⟩ : ∃ x, ks[k + 1]? = some x := ⟨_, List.getElem?_eq_getElem (by rw [unhide HL]; omega)⟩
      have c0 := (unhide H) k s0 hs0
      have c1 := (unhide H) (k + 1) s1 hs1
      have hstep : incrTo ks (k + 1) = ltB s0 s1 := by simp [incrTo, unhide HT, List.getD, hs0, hs1]
      have HS := hide hstep
      clear hs0 hs1 hstep
      have hk0 : (0 : Int) ≤ (k : Int) := Int.natCast_nonneg _
      cases hb : ltB s0 s1
      · have hb2 : Op.bytesLess s0.toList s1.toList = false := hb
        have HB := hide hb; clear hb
        go_wp2_with fail
        go_quiet (fail)
        go_wp2_with fail
        go_ret
        exact ⟨retB (incrTo_false ((unhide HS).trans (unhide HB)) _ (by rw [unhide HL]; omega)).symm, _, World.drewN_drewN _ _ _⟩
      · have hb2 : Op.bytesLess s0.toList s1.toList = true := hb
        have HB := hide hb; clear hb
        go_wp2_with fail
        go_quiet (fail)
        go_wp2_with fail
        go_roundw
        case rel => exact ⟨k + 1, by omega, by go_num, (unhide HS).trans (unhide HB), _, rfl⟩
        case measure => simp [intOf]; omega
    · have hkn : n = k + 1 := by omega
      have HK := hide hkn
      go_wp2_with fail
      go_ret
      exact ⟨retB (show incrB ks = true from by unfold incrB; rw [unhide HL, unhide HK]; exact unhide HT).symm, _, rfl⟩

theorem rincr_any (A : Option Addr) (c : Nat) (ks : List ByteArray) (w : World) (h : StrsAt w A ks) (hn : ks.length ≤ 140737488351232) :
    Calls Tryd.prog 46 #[.slice A ks.length c] w fun e w' => e = .returned (.bool (incrB ks)) ∧ ∃ q, w' = w.drewN q := by
  by_cases h1 : 1 < ks.length
  · obtain ⟨b, o, rfl, _, hr⟩ := h.row (by omega)
    exact rincr_rows b o c ks.length ks w rfl h1 hn hr
  · refine (rincr_short A ks.length c w (by omega)).mono ?_
    rintro e w' ⟨rfl, rfl⟩
    refine ⟨?_, 0, rfl⟩
    have : ks.length - 1 = 0 := by omega
    simp [incrB, this, incrTo]


abbrev RWfIs (N : Nat) : Prop := ∀ (V : Va), V.sz ≤ N → ∀ v w, VAt w V v → Calls Tryd.prog 30 #[v] w fun e w' => e = .returned (.bool V.wf) ∧ Below w.heap.size w w'
theorem wfAll_nil {l : List Va} (h : l.length = 0) : wfAll l = true := by
  obtain rfl := List.length_eq_zero_iff.1 h
  rfl
theorem isEmpty_size (s : ByteArray) : s.toList.isEmpty = decide (s.toList = []) := by cases s.toList <;> rfl

set_option maxRecDepth 100000 in
set_option maxHeartbeats 8000000 in
theorem rformed_step (N : Nat) (ih : Hid (RWfIs N)) (k n : Int) (s : ByteArray) (l : List Va) (ks : List ByteArray) (A : Option Addr) (c : Nat) (A' : Option Addr) (c' : Nat) (m m' : Nat) (w : World)
    (HN : Hid (Va.sz (Va.mk k n s l ks) ≤ N + 1)) (hm : m ≤ 140737488351232) (hm' : m' ≤ 140737488351232) (HL : Hid (l.length = m)) (HK : Hid (ks.length = m')) (HE : Hid (ElsAt w A l)) (HS : Hid (StrsAt w A' ks)) :
    Calls Tryd.prog 30 #[vaV k n s A m c A' m' c'] w fun e w' => e = .returned (.bool (Va.wf (.mk k n s l ks))) ∧ Below w.heap.size w w' := by
  have HI : Hid (∀ W, Below w.heap.size w W → Calls Tryd.prog 46 #[.slice A' m' c'] W fun e w' => e = .returned (.bool (incrB ks)) ∧ ∃ q, w' = W.drewN q) := fun W hW =>
    (unhide HK) ▸ rincr_any A' c' ks W ((unhide HS).below hW) (by rw [unhide HK]; exact hm')
  have hwv : Va.wf (.mk k n s l ks) = (fitsB k n s m m' (incrB ks) && wfAll l) := by simp only [Va.wf, unhide HL, unhide HK]
  have HWV := hide hwv
  by_cases h1 : k = 1
  · subst h1
    have hall : m = 0 → wfAll l = true := fun h => wfAll_nil (by rw [unhide HL]; exact h)
    rw [hwv]
    have HALL := hide hall
    clear hwv hall
    go_enter Tryd.func30, Tryd.ntmps30
    go_wp2_with fail
    all_goals
      go_ret
      refine ⟨retB ?_, by go_grown⟩
      by_cases hz : m = 0
      · rw [(unhide HALL) hz, Bool.and_true]
        rw [Bool.eq_iff_iff]; simp [fitsB, *] <;> omega
      · have : fitsB 1 n s m m' (incrB ks) = false := by simp [fitsB, hz]
        rw [this]
        rw [Bool.eq_iff_iff]; simp [*] <;> omega
  by_cases h2 : k = 2
  · subst h2
    have hall : m = 0 → wfAll l = true := fun h => wfAll_nil (by rw [unhide HL]; exact h)
    rw [hwv]
    have HALL := hide hall
    clear hwv hall
    go_enter Tryd.func30, Tryd.ntmps30
    go_wp2_with fail
    all_goals
      go_ret
      refine ⟨retB ?_, by go_grown⟩
      by_cases hz : m = 0
      · rw [(unhide HALL) hz, Bool.and_true]
        rw [Bool.eq_iff_iff]; simp [fitsB, *] <;> omega
      · have : fitsB 2 n s m m' (incrB ks) = false := by simp [fitsB, hz]
        rw [this]
        rw [Bool.eq_iff_iff]; simp [*] <;> omega
  by_cases h3 : k = 3
  · subst h3
    by_cases hm0 : m' = 0
    · subst hm0
      have hb : decide ((0 : Int) < 0) = false := by decide
      have HFIN := hide (show Va.wf (.mk 3 n s l ks) = ((decide (n = 0) && s.toList.isEmpty) && wfAll l) by rw [hwv]; simp [fitsB])
      clear hwv
      go_enter Tryd.func30, Tryd.ntmps30
      go_wp2_with fail
      go_loopw [3] (fun i wr => ∃ j : Nat, j ≤ m ∧ i = .int .i64 (j : Int) ∧ wfAll (l.take j) = true ∧ Below (w.alloc (.cells #[.int .i64 3, .int .i64 n, .string s, .slice A m c, .slice A' 0 c'] 25)).heap.size (w.alloc (.cells #[.int .i64 3, .int .i64 n, .string s, .slice A m c, .slice A' 0 c'] 25)) wr) (fun i _ => m - (intOf i).toNat)
      case atStart => exact ⟨0, Nat.zero_le _, rfl, rfl, by first | exact Below.refl _ _ | exact belowDrewN _ (Below.refl _ _)⟩
      case round =>
        obtain ⟨j, hj, rfl, htk, hbr⟩ := hrel
        have HT := hide htk
        have hX := (hbr.block w.heap.size (by simp)).trans (heap_alloc_new w _)
        have HBR := hide (advB (Below.refl _ _) hbr); have HB0 := hide hbr
        have f0 := (boxAt hX 0).1; have f1 := (boxAt hX 1).1; have f2 := (boxAt hX 2).1; have f3 := (boxAt hX 3).1; have f4 := (boxAt hX 4).1
        simp at f0 f1 f2 f3 f4
        clear hbr hX htk
        by_cases hlt : j < m
        · obtain ⟨x, hx⟩ : ∃ x, l[j]? = some x := ⟨_, List.getElem?_eq_getElem (by rw [unhide HL]; exact hlt)⟩
          obtain ⟨b, o, k1, n1, s1, A1, m1, c1, A2, m2, c2, rfl, d0, d1, d2, d3, d4, hv⟩ := (unhide HE) j x hx
          have hbw := World.block_lt_of_cell? w _ d0
          simp only at hbw
          rw [← (unhide HBR).cell (p := ⟨b, o + j * 5, none⟩) hbw] at d0
          rw [← (unhide HBR).cell (p := ⟨b, o + j * 5 + 1, none⟩) hbw] at d1
          rw [← (unhide HBR).cell (p := ⟨b, o + j * 5 + 2, none⟩) hbw] at d2
          rw [← (unhide HBR).cell (p := ⟨b, o + j * 5 + 3, none⟩) hbw] at d3
          rw [← (unhide HBR).cell (p := ⟨b, o + j * 5 + 4, none⟩) hbw] at d4
          have hW := (unhide ih) x (sz_mem (unhide HN) hx) _ wr (hv.later (unhide HBR))
          have hst := wfAll_take hx
          rw [unhide HT, Bool.true_and] at hst
          have hj0 : (0 : Int) ≤ (j : Int) := Int.natCast_nonneg _
          have hjm : (j : Int) < (m : Int) := by omega
          cases hq : x.wf
          · rw [hq] at hW hst
            have HW := hide hW; have HST := hide hst; clear hW hst hq hx hv
            go_wp2_with fail
            refine (unhide HW).mono ?_; rintro e w2 ⟨rfl, hb2⟩
            have HB2 := hide (thenB (unhide HBR) hb2); clear hb2
            go_wp2_with fail
            go_ret
            exact ⟨retB (by rw [unhide HFIN, wfAll_false (unhide HST), Bool.and_false]), unhide HB2⟩
          · rw [hq] at hW hst
            have HW := hide hW; have HST := hide hst; clear hW hst hq hx hv
            go_wp2_with fail
            refine (unhide HW).mono ?_; rintro e w2 ⟨rfl, hb2⟩
            have HB2 := hide ((unhide HB0).trans (hb2.mono (unhide HB0).size)); clear hb2
            go_wp2_with fail
            go_roundw
            case rel => exact ⟨j + 1, by omega, by go_num, unhide HST, unhide HB2⟩
            case measure => simp [intOf]; omega
        · have htl : l.take j = l := List.take_of_length_le (by rw [unhide HL]; omega)
          rw [htl] at HT
          clear htl
          go_wp2_with fail
          all_goals
            go_ret
            refine ⟨retB ?_, unhide HBR⟩
            rw [unhide HFIN, unhide HT, Bool.and_true]
            rw [Bool.eq_iff_iff]; simp [*]
    · have hf : Va.wf (.mk 3 n s l ks) = false := by rw [hwv]; simp [fitsB, hm0]
      rw [hf]
      have hb : decide ((0 : Int) < (m' : Int)) = true := decide_eq_true (by omega)
      have hb2 : decide (0 < m') = true := decide_eq_true (by omega)
      have hb3 : 0 < m' := by omega
      clear hwv hf
      go_enter Tryd.func30, Tryd.ntmps30
      go_wp2_with fail
      go_ret
      exact ⟨rfl, by go_grown⟩
  by_cases h4 : k = 4
  · subst h4
    by_cases hmm : m' = m
    · subst hmm
      cases hi : incrB ks with
      | false =>
        have hf : Va.wf (.mk 4 n s l ks) = false := by rw [hwv, hi]; simp [fitsB]
        rw [hf]
        rw [hi] at HI
        clear hwv hf hi
        go_enter Tryd.func30, Tryd.ntmps30
        go_wp2_with fail
        refine ((unhide HI) _ ((Below.refl _ _).alloc (Nat.le_refl _) _)).mono ?_; rintro e w1 ⟨rfl, q, rfl⟩
        go_wp2_with fail
        go_ret
        exact ⟨rfl, belowDrewN _ ((Below.refl _ _).alloc (Nat.le_refl _) _)⟩
      | true =>
        have HFIN := hide (show Va.wf (.mk 4 n s l ks) = ((decide (n = 0) && s.toList.isEmpty) && wfAll l) by rw [hwv, hi]; simp [fitsB])
        rw [hi] at HI
        clear hwv hi
        go_enter Tryd.func30, Tryd.ntmps30
        go_wp2_with fail
        refine ((unhide HI) _ ((Below.refl _ _).alloc (Nat.le_refl _) _)).mono ?_; rintro e w1 ⟨rfl, q, rfl⟩
        go_wp2_with fail
        go_loopw [3] (fun i wr => ∃ j : Nat, j ≤ m' ∧ i = .int .i64 (j : Int) ∧ wfAll (l.take j) = true ∧ Below (w.alloc (.cells #[.int .i64 4, .int .i64 n, .string s, .slice A m' c, .slice A' m' c'] 25)).heap.size (w.alloc (.cells #[.int .i64 4, .int .i64 n, .string s, .slice A m' c, .slice A' m' c'] 25)) wr) (fun i _ => m' - (intOf i).toNat)
        case atStart => exact ⟨0, Nat.zero_le _, rfl, rfl, by first | exact Below.refl _ _ | exact belowDrewN _ (Below.refl _ _)⟩
        case round =>
          obtain ⟨j, hj, rfl, htk, hbr⟩ := hrel
          have HT := hide htk
          have hX := (hbr.block w.heap.size (by simp)).trans (heap_alloc_new w _)
          have HBR := hide (advB (Below.refl _ _) hbr); have HB0 := hide hbr
          have f0 := (boxAt hX 0).1; have f1 := (boxAt hX 1).1; have f2 := (boxAt hX 2).1; have f3 := (boxAt hX 3).1; have f4 := (boxAt hX 4).1
          simp at f0 f1 f2 f3 f4
          clear hbr hX htk
          by_cases hlt : j < m'
          · obtain ⟨x, hx⟩ : ∃ x, l[j]? = some x := ⟨_, List.getElem?_eq_getElem (by rw [unhide HL]; exact hlt)⟩
            obtain ⟨b, o, k1, n1, s1, A1, m1, c1, A2, m2, c2, rfl, d0, d1, d2, d3, d4, hv⟩ := (unhide HE) j x hx
            have hbw := World.block_lt_of_cell? w _ d0
            simp only at hbw
            rw [← (unhide HBR).cell (p := ⟨b, o + j * 5, none⟩) hbw] at d0
            rw [← (unhide HBR).cell (p := ⟨b, o + j * 5 + 1, none⟩) hbw] at d1
            rw [← (unhide HBR).cell (p := ⟨b, o + j * 5 + 2, none⟩) hbw] at d2
            rw [← (unhide HBR).cell (p := ⟨b, o + j * 5 + 3, none⟩) hbw] at d3
            rw [← (unhide HBR).cell (p := ⟨b, o + j * 5 + 4, none⟩) hbw] at d4
            have hW := (unhide ih) x (sz_mem (unhide HN) hx) _ wr (hv.later (unhide HBR))
            have hst := wfAll_take hx
            rw [unhide HT, Bool.true_and] at hst
            have hj0 : (0 : Int) ≤ (j : Int) := Int.natCast_nonneg _
            have hjm : (j : Int) < (m' : Int) := by omega
            cases hq : x.wf
            · rw [hq] at hW hst
              have HW := hide hW; have HST := hide hst; clear hW hst hq hx hv
              go_wp2_with fail
              refine (unhide HW).mono ?_; rintro e w2 ⟨rfl, hb2⟩
              have HB2 := hide (thenB (unhide HBR) hb2); clear hb2
              go_wp2_with fail
              go_ret
              exact ⟨retB (by rw [unhide HFIN, wfAll_false (unhide HST), Bool.and_false]), unhide HB2⟩
            · rw [hq] at hW hst
              have HW := hide hW; have HST := hide hst; clear hW hst hq hx hv
              go_wp2_with fail
              refine (unhide HW).mono ?_; rintro e w2 ⟨rfl, hb2⟩
              have HB2 := hide ((unhide HB0).trans (hb2.mono (unhide HB0).size)); clear hb2
              go_wp2_with fail
              go_roundw
              case rel => exact ⟨j + 1, by omega, by go_num, unhide HST, unhide HB2⟩
              case measure => simp [intOf]; omega
          · have htl : l.take j = l := List.take_of_length_le (by rw [unhide HL]; omega)
            rw [htl] at HT
            clear htl
            go_wp2_with fail
            all_goals
              go_ret
              refine ⟨retB ?_, unhide HBR⟩
              rw [unhide HFIN, unhide HT, Bool.and_true]
              rw [Bool.eq_iff_iff]; simp [*]
    · have hf : Va.wf (.mk 4 n s l ks) = false := by rw [hwv]; simp [fitsB, hmm]
      rw [hf]
      have hb : ((m' : Int) != (m : Int)) = true := by simp; omega
      clear hwv hf
      go_enter Tryd.func30, Tryd.ntmps30
      go_wp2_with fail
      go_ret
      exact ⟨rfl, by go_grown⟩
  · have hf : Va.wf (.mk k n s l ks) = false := by rw [hwv]; simp [fitsB, h1, h2, h3, h4]
    rw [hf]
    have b1 : (k == 1) = false := by simpa using h1
    have b2 : (k == 2) = false := by simpa using h2
    have b3 : (k == 3) = false := by simpa using h3
    have b4 : (k == 4) = false := by simpa using h4
    clear hwv hf
    go_enter Tryd.func30, Tryd.ntmps30
    go_wp2_with fail
    go_ret
    exact ⟨rfl, by go_grown⟩
theorem rformed_all (N : Nat) : RWfIs N := by
  induction N with
  | zero => intro V hV; have := sz_pos V; omega
  | succ N ih =>
    intro V hV v w h
    obtain ⟨k, n, s, l, ks, A, c, A', c', rfl, rfl, _, _, _, h1, h2, _, _, hE, hS⟩ := h.open
    exact rformed_step N ih k n s l ks A c A' c' l.length ks.length w hV h1 h2 rfl rfl hE hS
theorem rformed_any (V : Va) (v : Value) (w : World) (h : VAt w V v) : Calls Tryd.prog 30 #[v] w fun e w' => e = .returned (.bool V.wf) ∧ Below w.heap.size w w' := rformed_all V.sz V (Nat.le_refl _) v w h
end Go.Proofs.YtclpbjdnollfcaaDoor
