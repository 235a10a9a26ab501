/- The law CodecDifferent returns true for all values. -/
import Derived.Test.YtpjfpcbodjmbnaaDoorCodLaw
namespace Go.Proofs.YtpjfpcbodjmbnaaDoor
set_option linter.unusedSimpArgs false
set_option linter.unusedVariables false
open Go.RowKit Go.LawClose

set_option maxRecDepth 100000 in
set_option maxHeartbeats 8000000 in
theorem different_any (V V' : Va) (v v' : Value) (w : World) (hv : VAt w V v) (hv' : VAt w V' v') (hE : Env w) (hw : gTop ≤ w.heap.size) :
    Calls Tryd.prog 7 #[v, v'] w (LawOk w) := by
  obtain ⟨k, n, s, A, m1, c, A', m2, c', rfl⟩ := hv.form
  obtain ⟨k2, n2, s2, B, m3, d, B', m4, d', rfl⟩ := hv'.form
  have HE := hide hE; have HV := hide hv; have HV' := hide hv'
  clear hE hv hv'
  go_enter Tryd.func7, Tryd.ntmps7
  go_wp2_with fail
  have HB0 := hide ((((Below.refl w.heap.size w).alloc (Nat.le_refl _) (.cells #[.int .i64 k, .int .i64 n, .string s, .slice A m1 c, .slice A' m2 c'] 25)).alloc (by simp) (.cells #[.int .i64 k2, .int .i64 n2, .string s2, .slice B m3 d, .slice B' m4 d'] 25)))
  refine (sane_any _ ((unhide HE).to hw (unhide HB0)) (Nat.le_trans hw (unhide HB0).size)).mono ?_
  rintro e w1 ⟨rfl, hb1⟩
  have hX1 := (hb1.block w.heap.size (by simp; omega)).trans ((heap_alloc_old _ _ (by simp)).trans (heap_alloc_new w _))
  have hY1 := (hb1.block (w.heap.size + 1) (by simp)).trans (heap_two w _ _)
  have HB1 := hide (thenB (unhide HB0) hb1)
  have hz1 : w.heap.size + 1 < w1.heap.size := by have := hb1.size; simp at this; omega
  have HX1 := hide hX1; have HY1 := hide hY1
  have f0 := (boxAt hX1 0).1; have f1 := (boxAt hX1 1).1; have f2 := (boxAt hX1 2).1; have f3 := (boxAt hX1 3).1; have f4 := (boxAt hX1 4).1
  have g0 := (boxAt hY1 0).1; have g1 := (boxAt hY1 1).1; have g2 := (boxAt hY1 2).1; have g3 := (boxAt hY1 3).1; have g4 := (boxAt hY1 4).1
  simp at f0 f1 f2 f3 f4 g0 g1 g2 g3 g4
  clear hb1 hX1 hY1 HB0
  go_wp2_with fail
  have HBa := hide ((unhide HB1).alloc (unhide HB1).size (.cells #[.int .i64 k, .int .i64 n, .string s, .slice A m1 c, .slice A' m2 c', .int .i64 k2, .int .i64 n2, .string s2, .slice B m3 d, .slice B' m4 d'] 25))
  refine (few_list (some ⟨w1.heap.size, 0, none⟩) 2 [V, V'] _ (elsAt_two (heap_alloc_new _ _) ((unhide HV).later (unhide HBa)) ((unhide HV').later (unhide HBa))) (by simp)).mono ?_
  rintro e w2 ⟨rfl, hb2⟩
  have HB2 := hide (advB (unhide HB1) hb2)
  have hX2 := (hb2.block w.heap.size (by simp; omega)).trans ((heap_alloc_old _ _ (by omega)).trans (unhide HX1))
  have hY2 := (hb2.block (w.heap.size + 1) (by simp; omega)).trans ((heap_alloc_old _ _ hz1).trans (unhide HY1))
  have hz2 : w.heap.size + 1 < w2.heap.size := by have := hb2.size; simp at this; omega
  have HX2 := hide hX2; have HY2 := hide hY2
  clear f0 f1 f2 f3 f4 g0 g1 g2 g3 g4
  have f0 := (boxAt hX2 0).1; have f1 := (boxAt hX2 1).1; have f2 := (boxAt hX2 2).1; have f3 := (boxAt hX2 3).1; have f4 := (boxAt hX2 4).1
  simp at f0 f1 f2 f3 f4
  clear hb2 hX2 hY2 HBa
  cases hfew : fewAll [V, V'] with
  | false =>
    clear hfew
    go_wp2_with fail
    go_ret
    exact ⟨rfl, unhide HB2⟩
  | true =>
    simp only [fewAll, List.all_cons, List.all_nil, Bool.and_true, Bool.and_eq_true] at hfew
    obtain ⟨n1, n2'⟩ := few_enc' (unhide HV) hfew.1
    obtain ⟨n3, n4⟩ := few_enc' (unhide HV') hfew.2
    have H1 := hide n1; have H2 := hide n2'; have H3 := hide n3; have H4 := hide n4
    clear hfew n1 n2' n3 n4
    go_wp2_with fail
    refine (encode_b ((unhide HV).later (unhide HB2)) (unhide H1) (unhide H2) ((unhide HE).to hw (unhide HB2)) (Nat.le_trans hw (unhide HB2).size)).mono ?_
    rintro e w3 ⟨b3, rfl, hB3, hb3⟩
    have HB3 := hide (thenB (unhide HB2) hb3)
    have hY3 := (hb3.block (w.heap.size + 1) hz2).trans (unhide HY2)
    have hX3 := (hb3.block w.heap.size (by omega)).trans (unhide HX2)
    have HX3 := hide hX3; have HY3 := hide hY3; have HC3 := hide hB3
    have hz3 : w.heap.size + 1 < w3.heap.size := by have := hb3.size; omega
    clear f0 f1 f2 f3 f4
    have g0 := (boxAt hY3 0).1; have g1 := (boxAt hY3 1).1; have g2 := (boxAt hY3 2).1; have g3 := (boxAt hY3 3).1; have g4 := (boxAt hY3 4).1
    simp at g0 g1 g2 g3 g4
    clear hb3 hX3 hY3 hB3
    go_wp2_with fail
    refine (encode_b ((unhide HV').later (unhide HB3)) (unhide H3) (unhide H4) ((unhide HE).to hw (unhide HB3)) (Nat.le_trans hw (unhide HB3).size)).mono ?_
    rintro e w4 ⟨b4, rfl, hB4, hb4⟩
    have HB4 := hide (thenB (unhide HB3) hb4)
    have hY4 := (hb4.block (w.heap.size + 1) hz3).trans (unhide HY3)
    have hX4 := (hb4.block w.heap.size (by omega)).trans (unhide HX3)
    have HC4 := hide ((unhide HC3).later hb4); have HD4 := hide hB4
    have hz4 : w.heap.size + 1 < w4.heap.size := by have := hb4.size; omega
    clear g0 g1 g2 g3 g4
    have f0 := (boxAt hX4 0).1; have f1 := (boxAt hX4 1).1; have f2 := (boxAt hX4 2).1; have f3 := (boxAt hX4 3).1; have f4 := (boxAt hX4 4).1
    have g0 := (boxAt hY4 0).1; have g1 := (boxAt hY4 1).1; have g2 := (boxAt hY4 2).1; have g3 := (boxAt hY4 3).1; have g4 := (boxAt hY4 4).1
    simp at f0 f1 f2 f3 f4 g0 g1 g2 g3 g4
    clear hb4 hX4 hY4 hB4 HX1 HX2 HX3 HY1 HY2 HY3 HB1 HB2 HB3 HC3
    by_cases hE1 : chkE V = 0
    case neg =>
      have q1 : (chkE V != 0) = true := by simpa using hE1
      generalize chkE V = z1 at q1
      generalize chkE V' = z2
      clear hE1
      go_wp2_with fail
      go_ret
      exact ⟨rfl, unhide HB4⟩
    by_cases hE2 : chkE V' = 0
    case neg =>
      have q1 : (chkE V' != 0) = true := by simpa using hE2
      rw [hE1]
      generalize chkE V' = z2 at q1
      clear hE1 hE2
      go_wp2_with fail
      go_ret
      exact ⟨rfl, unhide HB4⟩
    have hc4 := unhide HC4; have hd4 := unhide HD4
    rw [encF_ok hE1] at hc4
    rw [encF_ok hE2] at hd4
    rw [hE1, hE2]
    have HE1 := hide hE1; have HE2 := hide hE2; have HC := hide hc4; have HD := hide hd4
    clear hE1 hE2 hc4 hd4 HC4 HD4
    go_wp2_with fail
    refine (same_any V V' _ _ _ ((unhide HV).later (unhide HB4)) ((unhide HV').later (unhide HB4))).mono ?_
    rintro e w5 ⟨rfl, hb5⟩
    have HB5 := hide (thenB (unhide HB4) hb5)
    have hc5 := (unhide HC).later hb5; have hd5 := (unhide HD).later hb5
    clear HC HD f0 f1 f2 f3 f4 g0 g1 g2 g3 g4 hb5
    cases hs : V.same V' with
    | true =>
      have heq : V = V' := (same_iff _ _).1 hs
      subst heq
      have k1 := hc5.conv; have k2 := hd5.conv
      generalize (⟨V.enc.toArray⟩ : ByteArray) = st at k1 k2
      clear hc5 hd5 hs
      go_wp2_with fail
      go_ret
      exact ⟨by simp, unhide HB5⟩
    | false =>
      have hne : V ≠ V' := fun e => by rw [(same_iff _ _).2 e] at hs; cases hs
      have htn := take_ne (unhide HE1) (unhide HE2) (unhide HV).bd (unhide HV').bd hne
      obtain ⟨A3, c3, rfl, hl3, hm3, _⟩ := hc5.form
      obtain ⟨A4, c4, rfl, hl4, hm4, _⟩ := hd5.form
      generalize hm1 : V.enc.length = p1 at *
      generalize hm2 : V'.enc.length = p2 at *
      clear hs hne HE1 HE2 H2 H4
      rcases Nat.le_total p1 p2 with hle | hle
      · rw [Nat.min_eq_left hle] at htn
        have t1 := (hc5.take (k := p1) (by omega)).2; have t2 := (hd5.take (k := p1) (by omega)).2
        have hneq : (!((⟨(V.enc.take p1).toArray⟩ : ByteArray).toList == (⟨(V'.enc.take p1).toArray⟩ : ByteArray).toList)) = true := by simpa [ByteArray.toList_eq] using htn
        have k1 := fun (q : Nat) => (t1.later (belowDrewN q (Below.refl _ _))).conv
        have k2 := fun (q : Nat) => (t2.later (belowDrewN q (Below.refl _ _))).conv
        generalize (⟨(V.enc.take p1).toArray⟩ : ByteArray) = st1 at k1 hneq
        generalize (⟨(V'.enc.take p1).toArray⟩ : ByteArray) = st2 at k2 hneq
        have hmin : min (p1 : Int) (p2 : Int) = (p1 : Int) := by omega
        have hi0 : (0 : Int) ≤ (p1 : Int) := Int.natCast_nonneg _
        have hi1 : (p1 : Int) ≤ (c3 : Int) := by omega
        have hi2 : (p1 : Int) ≤ (c4 : Int) := by omega
        have hi3 : (p1 : Int) ≤ (p2 : Int) := by omega
        clear htn hc5 hd5 t1 t2 hm1 hm2
        go_wp2_with fail
        go_quiet (fail)
        go_wp2_with fail
        go_ret
        exact ⟨rfl, belowDrewN _ (unhide HB5)⟩
      · rw [Nat.min_eq_right hle] at htn
        have t1 := (hc5.take (k := p2) (by omega)).2; have t2 := (hd5.take (k := p2) (by omega)).2
        have hneq : (!((⟨(V.enc.take p2).toArray⟩ : ByteArray).toList == (⟨(V'.enc.take p2).toArray⟩ : ByteArray).toList)) = true := by simpa [ByteArray.toList_eq] using htn
        have k1 := fun (q : Nat) => (t1.later (belowDrewN q (Below.refl _ _))).conv
        have k2 := fun (q : Nat) => (t2.later (belowDrewN q (Below.refl _ _))).conv
        generalize (⟨(V.enc.take p2).toArray⟩ : ByteArray) = st1 at k1 hneq
        generalize (⟨(V'.enc.take p2).toArray⟩ : ByteArray) = st2 at k2 hneq
        have hmin : min (p1 : Int) (p2 : Int) = (p2 : Int) := by omega
        have hi0 : (0 : Int) ≤ (p2 : Int) := Int.natCast_nonneg _
        have hi1 : (p2 : Int) ≤ (c3 : Int) := by omega
        have hi2 : (p2 : Int) ≤ (c4 : Int) := by omega
        have hi3 : (p2 : Int) ≤ (p1 : Int) := by omega
        clear htn hc5 hd5 t1 t2 hm1 hm2
        go_wp2_with fail
        go_quiet (fail)
        go_wp2_with fail
        go_ret
        exact ⟨rfl, belowDrewN _ (unhide HB5)⟩
end Go.Proofs.YtpjfpcbodjmbnaaDoor
