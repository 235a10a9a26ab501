/- The law CodecKeys returns true for every value and every string. -/
import Derived.Test.YtpjfpcbodjmbnaaDoorCodKeysMath
import Derived.Deep.RegionWith
namespace Go.Proofs.YtpjfpcbodjmbnaaDoor
set_option linter.unusedSimpArgs false
set_option linter.unusedVariables false
open Go.RowKit Go.LawClose

set_option maxRecDepth 100000 in
set_option maxHeartbeats 16000000 in
theorem keys_any (V0 : Va) (v : Value) (s1 : ByteArray) (w : World) (hv : VAt w V0 v) (hs1 : s1.size ≤ 140737488351232) (hE : Env w) (hw : gTop ≤ w.heap.size) :
    Calls Tryd.prog 9 #[v, .string s1] w (LawOk w) := by
  obtain ⟨k, n, s, l, ks, A, c, A', c', rfl, rfl, hk, hn, hs, hll, hkl, hA, hA', hels, hstr⟩ := hv.open
  obtain ⟨m1, hm1⟩ : ∃ m, l.length = m := ⟨_, rfl⟩
  obtain ⟨m2, hm2⟩ : ∃ m, ks.length = m := ⟨_, rfl⟩
  rw [hm1, hm2] at hv ⊢
  rw [hm1] at hll
  rw [hm2] at hkl
  have HE := hide hE; have HV := hide hv; have HM1 := hide hm1; have HM2 := hide hm2; have HELS := hide hels; have HSTR := hide hstr
  clear hE hv hm1 hm2 hels hstr hA hA' hk hn hs
  go_enter Tryd.func9, Tryd.ntmps9
  go_wp2_with fail
  have HB0 := hide ((Below.refl w.heap.size w).alloc (Nat.le_refl _) (.cells #[.int .i64 k, .int .i64 n, .string s, .slice A m1 c, .slice A' m2 c'] 25))
  refine (sane_any _ ((unhide HE).to hw (unhide HB0)) (Nat.le_trans hw (unhide HB0).size)).mono ?_
  rintro e w1 ⟨rfl, hb1⟩
  have hX1 := (hb1.block w.heap.size (by simp)).trans (heap_alloc_new w _)
  have HB1 := hide (thenB (unhide HB0) hb1)
  have hz1 : w.heap.size < w1.heap.size := by have := hb1.size; simp at this; omega
  have HX1 := hide hX1
  have f0 := (boxAt hX1 0).1; have f1 := (boxAt hX1 1).1; have f2 := (boxAt hX1 2).1; have f3 := (boxAt hX1 3).1; have f4 := (boxAt hX1 4).1
  simp at f0 f1 f2 f3 f4
  clear hb1 hX1 HB0
  go_wp2_with fail
  have HBa := hide ((unhide HB1).alloc (unhide HB1).size (.cells #[.int .i64 k, .int .i64 n, .string s, .slice A m1 c, .slice A' m2 c'] 25))
  refine (few_list (some ⟨w1.heap.size, 0, none⟩) 1 [.mk k n s l ks] _ (elsAt_one (heap_alloc_new _ _) ((unhide HV).later (unhide HBa))) (by simp)).mono ?_
  rintro e w2 ⟨rfl, hb2⟩
  have HB2 := hide (advB (unhide HB1) hb2)
  have hX2 := (hb2.block w.heap.size (by simp; omega)).trans ((heap_alloc_old _ _ (by omega)).trans (unhide HX1))
  have hz2 : w.heap.size < w2.heap.size := by have := hb2.size; simp at this; omega
  have HX2 := hide hX2
  clear f0 f1 f2 f3 f4
  have f0 := (boxAt hX2 0).1; have f1 := (boxAt hX2 1).1; have f2 := (boxAt hX2 2).1; have f3 := (boxAt hX2 3).1; have f4 := (boxAt hX2 4).1
  simp at f0 f1 f2 f3 f4
  clear hb2 hX2 HBa HX1 HB1
  cases hfew : fewAll [Va.mk k n s l ks] with
  | false =>
    clear hfew
    go_wp2_with fail
    go_ret
    exact ⟨rfl, unhide HB2⟩
  | true =>
    by_cases hl2 : 200 < s1.size
    · have b1 : decide ((200 : Int) < (s1.size : Int)) = true := decide_eq_true (by omega)
      clear hfew
      go_wp2_with fail
      go_ret
      exact ⟨rfl, unhide HB2⟩
    have b1 : decide ((200 : Int) < (s1.size : Int)) = false := decide_eq_false (by omega)
    by_cases hk4 : k = 4
    case neg =>
      have b2 : (k != 4) = true := by simpa using hk4
      clear hfew
      go_wp2_with fail
      go_ret
      exact ⟨rfl, unhide HB2⟩
    subst hk4
    simp only [fewAll, List.all_cons, List.all_nil, Bool.and_true] at hfew
    obtain ⟨n1, n2'⟩ := few_enc' (unhide HV) hfew
    have H1 := hide n1; have H2 := hide n2'
    clear hfew n1 n2'
    go_wp2_with fail
    refine (encode_b ((unhide HV).later (unhide HB2)) (unhide H1) (unhide H2) ((unhide HE).to hw (unhide HB2)) (Nat.le_trans hw (unhide HB2).size)).mono ?_
    rintro e w3 ⟨b3, rfl, hB3, hb3⟩
    have HB3 := hide (thenB (unhide HB2) hb3)
    have hX3 := (hb3.block w.heap.size hz2).trans (unhide HX2)
    have HX3 := hide hX3; have HC3 := hide hB3
    have hz3 : w.heap.size < w3.heap.size := by have := hb3.size; omega
    clear f0 f1 f2 f3 f4 hb3 hX3 hB3 HX2 HB2
    by_cases hE1 : chkE (.mk 4 n s l ks) = 0
    case neg =>
      have q1 : (chkE (.mk 4 n s l ks) != 0) = true := by simpa using hE1
      generalize chkE (.mk 4 n s l ks) = z1 at q1 ⊢
      clear hE1 HC3
      go_wp2_with fail
      go_ret
      exact ⟨rfl, unhide HB3⟩
    have hc3 := unhide HC3
    rw [encF_ok hE1] at hc3
    have hdec := decF_enc hE1 (unhide HV).bd
    have hwf := (chk_split hE1).1
    rw [hE1]
    have HDEC := hide hdec; have HC := hide hc3
    simp only [Va.wf, Bool.and_eq_true] at hwf
    have hfc := fits_cases hwf.1
    have hinc : ks.length = l.length ∧ incrB ks = true := by
      rcases hfc with ⟨h, _⟩ | ⟨h, _⟩ | ⟨h, _⟩ | ⟨_, _, _, h1, h2⟩
      · cases h
      · cases h
      · cases h
      · exact ⟨h1, h2⟩
    have hmm : m2 = m1 := by have := unhide HM1; have := unhide HM2; omega
    subst hmm
    have HINC := hide hinc
    clear hE1 hc3 hdec hwf hfc hinc HC3
    go_wp2_with fail
    refine (decode_b (unhide HC) (unhide H2) ((unhide HE).to hw (unhide HB3)) (Nat.le_trans hw (unhide HB3).size)).mono ?_
    rintro e w4 ⟨he, hb4⟩
    rw [unhide HDEC] at he
    obtain ⟨v4, rfl, hv4⟩ := he
    obtain ⟨a1, a2, a3, a4, a5, a6, a7, a8, a9, rfl⟩ := VIn.form hv4
    have HB4 := hide (thenB (unhide HB3) hb4)
    have HW4 := hide hv4.at
    have hX4 := (hb4.block w.heap.size hz3).trans (unhide HX3)
    have HX4 := hide hX4
    have hz4 : w.heap.size < w4.heap.size := by have := hb4.size; omega
    have f0 := (boxAt hX4 0).1; have f1 := (boxAt hX4 1).1; have f2 := (boxAt hX4 2).1; have f3 := (boxAt hX4 3).1; have f4 := (boxAt hX4 4).1
    simp at f0 f1 f2 f3 f4
    clear hb4 hX4 HX3 HB3 hv4 HC HDEC
    go_wp2_with fail
    go_loopw [9, 58] (fun has i wr => ∃ j : Nat, j ≤ m2 ∧ i = .int .i64 (j : Int) ∧ has = .bool (memB s1 (ks.take j)) ∧ Below (w4.alloc (.cells #[.int .i64 a1, .int .i64 a2, .string a3, .slice a4 a5 a6, .slice a7 a8 a9] 25)).heap.size (w4.alloc (.cells #[.int .i64 a1, .int .i64 a2, .string a3, .slice a4 a5 a6, .slice a7 a8 a9] 25)) wr) (fun _ i _ => m2 - (intOf i).toNat)
    case atStart => exact ⟨0, Nat.zero_le _, rfl, rfl, Below.refl _ _⟩
    case round =>
      obtain ⟨j, hj, rfl, rfl, hbr⟩ := hrel
      have hXr := (hbr.block w.heap.size (by simp; omega)).trans ((heap_alloc_old _ _ hz4).trans (unhide HX4))
      have hYr := (hbr.block w4.heap.size (by simp)).trans (heap_alloc_new _ _)
      have HWr := hide ((unhide HW4).later (advB (Below.refl _ _) hbr))
      have HBR := hide (advB (unhide HB4) hbr)
      have HBR0 := hide hbr
      have HXR := hide hXr; have HYR := hide hYr
      have hzr : w4.heap.size < wr.heap.size := by have := hbr.size; simp at this; omega
      clear f0 f1 f2 f3 f4
      have f0 := (boxAt hXr 0).1; have f1 := (boxAt hXr 1).1; have f2 := (boxAt hXr 2).1; have f3 := (boxAt hXr 3).1; have f4 := (boxAt hXr 4).1
      have g0 := (boxAt hYr 0).1; have g1 := (boxAt hYr 1).1; have g2 := (boxAt hYr 2).1; have g3 := (boxAt hYr 3).1; have g4 := (boxAt hYr 4).1
      simp at f0 f1 f2 f3 f4 g0 g1 g2 g3 g4
      clear hbr hXr hYr
      by_cases hlt : j < m2
      · obtain ⟨q, hq⟩ : ∃ q, ks[j]? = some q := ⟨_, List.getElem?_eq_getElem (by rw [unhide HM2]; exact hlt)⟩
        obtain ⟨x, hx⟩ : ∃ x, l[j]? = some x := ⟨_, List.getElem?_eq_getElem (by rw [unhide HM1]; exact hlt)⟩
        obtain ⟨b', o', rfl, hqc, _⟩ := (unhide HSTR) j q hq
        obtain ⟨b, o, k1, n1, t1, A1, p1, c1, A2, p2, c2, rfl, d0, d1, d2, d3, d4, hvx⟩ := (unhide HELS) j x hx
        have hbw := World.block_lt_of_cell? w _ d0
        have hbw' := World.block_lt_of_cell? w _ hqc
        simp only at hbw hbw'
        have HD := hide (And.intro d0 (And.intro d1 (And.intro d2 (And.intro d3 d4))))
        rw [← (unhide HBR).cell (p := ⟨b', o' + j, none⟩) hbw'] at hqc
        have hget := getF_at (n := n) (s := s) (unhide HINC).2 hq hx
        have HMB := hide (memB_take (q := s1) hq)
        have HGET := hide hget; have HVX := hide hvx
        have hj0 : (0 : Int) ≤ (j : Int) := Int.natCast_nonneg _
        have hjm : (j : Int) < (m2 : Int) := by omega
        clear hq hx hget hvx d0 d1 d2 d3 d4
        go_wp2_with fail
        refine (get_any _ _ q wr (unhide HWr)).mono ?_
        rintro e w5 ⟨v5, he, hv5, hb5⟩
        rw [unhide HGET] at he hv5
        obtain ⟨e1, e2, e3, e4, e5, e6, e7, e8, e9, rfl⟩ := hv5.form
        subst he
        have hXs := (hb5.block w.heap.size (by omega)).trans (unhide HXR)
        have HB5 := hide (thenB (unhide HBR) hb5)
        have HB50 := hide ((unhide HBR0).trans (hb5.mono (unhide HBR0).size))
        have HV5 := hide hv5
        have hzs : w.heap.size < w5.heap.size := by have := hb5.size; omega
        obtain ⟨d0, d1, d2, d3, d4⟩ := unhide HD
        rw [← (unhide HB5).cell (p := ⟨b, o + j * 5, none⟩) hbw] at d0
        rw [← (unhide HB5).cell (p := ⟨b, o + j * 5 + 1, none⟩) hbw] at d1
        rw [← (unhide HB5).cell (p := ⟨b, o + j * 5 + 2, none⟩) hbw] at d2
        rw [← (unhide HB5).cell (p := ⟨b, o + j * 5 + 3, none⟩) hbw] at d3
        rw [← (unhide HB5).cell (p := ⟨b, o + j * 5 + 4, none⟩) hbw] at d4
        clear f0 f1 f2 f3 f4 g0 g1 g2 g3 g4 hqc
        have f0 := (boxAt hXs 0).1; have f1 := (boxAt hXs 1).1; have f2 := (boxAt hXs 2).1; have f3 := (boxAt hXs 3).1; have f4 := (boxAt hXs 4).1
        simp at f0 f1 f2 f3 f4
        have hbs : b < w5.heap.size := Nat.lt_of_lt_of_le hbw (unhide HB5).size
        have HS := hide (fun (W : World) (hW : Below w5.heap.size w5 W) => (same_any x x _ _ W ((unhide HV5).later hW) ((unhide HVX).later ((unhide HB5).trans (hW.mono (unhide HB5).size)))).mono (fun e w' h => by rw [(same_iff x x).2 rfl] at h; exact h : ∀ e w', _ → (e = .returned (.bool true) ∧ Below W.heap.size W w')))
        clear hb5 hv5 hXs
        cases hmb : memB s1 (ks.take j) with
        | true =>
          go_wp2_with fail
          go_region_with (go_at_call 21; refine ((unhide HS) _ (belowDrewN _ ((Below.refl _ _).alloc (Nat.le_refl _) _))).mono ?_; rintro e w6 ⟨rfl, hb6⟩)
          all_goals
            have HB6 := hide ((unhide HB50).trans ((Below.trans (belowDrewN 1 ((Below.refl _ _).alloc (Nat.le_refl _) _)) (hb6.mono (by simp))).mono (unhide HB50).size)); clear hb6
            go_wp2_with fail
            go_roundw
            case rel => exact ⟨j + 1, by omega, by go_num, by rw [unhide HMB]; simp [*], unhide HB6⟩
            case measure => simp [intOf]; omega
        | false =>
          by_cases hqs : q = s1
          · have hqe : (q.toList == s1.toList) = true := by simp [hqs]
            go_wp2_with fail
            go_region_with (go_at_call 21; refine ((unhide HS) _ (belowDrewN _ ((Below.refl _ _).alloc (Nat.le_refl _) _))).mono ?_; rintro e w6 ⟨rfl, hb6⟩)
            all_goals
              have HB6 := hide ((unhide HB50).trans ((Below.trans (belowDrewN 1 ((Below.refl _ _).alloc (Nat.le_refl _) _)) (hb6.mono (by simp))).mono (unhide HB50).size)); clear hb6
              go_wp2_with fail
              go_roundw
              case rel => exact ⟨j + 1, by omega, by go_num, by rw [unhide HMB]; simp [*], unhide HB6⟩
              case measure => simp [intOf]; omega
          · have hqn : ¬ q.toList = s1.toList := fun h => hqs (toList_inj h)
            have hqe : (q.toList == s1.toList) = false := by simp [hqn]
            go_wp2_with fail
            go_region_with (go_at_call 21; refine ((unhide HS) _ (belowDrewN _ ((Below.refl _ _).alloc (Nat.le_refl _) _))).mono ?_; rintro e w6 ⟨rfl, hb6⟩)
            all_goals
              have HB6 := hide ((unhide HB50).trans ((Below.trans (belowDrewN 1 ((Below.refl _ _).alloc (Nat.le_refl _) _)) (hb6.mono (by simp))).mono (unhide HB50).size)); clear hb6
              go_wp2_with fail
              go_roundw
              case rel => exact ⟨j + 1, by omega, by go_num, by rw [unhide HMB]; simp [*], unhide HB6⟩
              case measure => simp [intOf]; omega
      · have hjm : m2 = j := by omega
        subst hjm
        have htl : ks.take m2 = ks := List.take_of_length_le (by rw [unhide HM2]; omega)
        rw [htl]
        have HSOME := hide (getF_some (n := n) (s := s) (unhide HINC).1 s1)
        clear htl
        go_wp2_with fail
        refine (get_any _ _ s1 wr (unhide HWr)).mono ?_
        rintro e w5 ⟨v5, he, hv5, hb5⟩
        rw [unhide HSOME] at he
        obtain ⟨e1, e2, e3, e4, e5, e6, e7, e8, e9, rfl⟩ := hv5.form
        subst he
        have HB5 := hide (thenB (unhide HBR) hb5)
        clear hb5 hv5 f0 f1 f2 f3 f4 g0 g1 g2 g3 g4
        cases hmb : memB s1 ks
        all_goals
          go_wp2_with fail
          go_ret
          exact ⟨by simp, (unhide HB5).alloc (unhide HB5).size _⟩
end Go.Proofs.YtpjfpcbodjmbnaaDoor
