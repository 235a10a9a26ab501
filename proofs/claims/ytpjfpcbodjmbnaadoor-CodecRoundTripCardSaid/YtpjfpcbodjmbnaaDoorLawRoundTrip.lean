/- The law CodecRoundTrip returns true for every value and all bytes. (Written by wip/tools/gen_round.py: what follows the first half stands there once.) -/
import Derived.Test.YtpjfpcbodjmbnaaDoorCodLaw
import Derived.Test.YtpjfpcbodjmbnaaDoorCodRefSame
namespace Go.Proofs.YtpjfpcbodjmbnaaDoor
set_option linter.unusedSimpArgs false
set_option linter.unusedVariables false
open Go.RowKit Go.LawClose

mutual
theorem wf_nest : (V : Va) → V.wf = true → V.nest ≤ V.dep + 1
  | .mk k n s l ks, h => by
    simp only [Va.wf, Bool.and_eq_true] at h
    have h2 := wfAll_nest l h.2
    simp only [Va.nest, Va.dep]
    rcases fits_cases h.1 with ⟨rfl, _, h1, _⟩ | ⟨rfl, _, h1, _⟩ | ⟨rfl, _⟩ | ⟨rfl, _⟩
    · obtain rfl := List.length_eq_zero_iff.1 h1
      simp [nestAll]
    · obtain rfl := List.length_eq_zero_iff.1 h1
      simp [nestAll]
    · rw [if_neg (by decide)]; omega
    · rw [if_neg (by decide)]; omega
theorem wfAll_nest : (l : List Va) → wfAll l = true → nestAll l ≤ depAll l + 1
  | [], _ => by simp [nestAll]
  | x :: r, h => by
    simp only [wfAll, Bool.and_eq_true] at h
    have h1 := wf_nest x h.1
    have h2 := wfAll_nest r h.2
    simp only [nestAll, depAll]
    omega
end
theorem chk_nest {V : Va} (h : chkE V = 0) : V.nest ≤ 1000 := by
  have h1 := wf_nest V (chk_split h).1
  have h2 := (chk_split h).2
  omega

set_option maxRecDepth 100000 in
set_option maxHeartbeats 16000000 in
theorem roundTrip_any (V : Va) (v rv : Value) (l : List UInt8) (w : World) (hv : VAt w V v) (hr : BAt w rv l) (hE : Env w) (hw : gTop ≤ w.heap.size) :
    Calls Tryd.prog 6 #[v, rv] w (LawOk w) := by
  obtain ⟨k, n, s, A, m1, c, A', m2, c', rfl⟩ := hv.form
  obtain ⟨RA, rc, rfl, _, _, _⟩ := hr.form
  have HE := hide hE; have HV := hide hv; have HR := hide hr
  obtain ⟨ml, hml⟩ : ∃ ml, l.length = ml := ⟨_, rfl⟩
  rw [hml] at HR ⊢
  have HML := hide hml
  clear hE hv hr hml
  go_enter Tryd.func6, Tryd.ntmps6
  go_wp2_with fail
  have HB0 := hide ((Below.refl w.heap.size w).alloc (Nat.le_refl _) (.cells #[.int .i64 k, .int .i64 n, .string s, .slice A m1 c, .slice A' m2 c'] 25))
  refine (sane_any _ ((unhide HE).to hw (unhide HB0)) (Nat.le_trans hw (unhide HB0).size)).mono ?_
  rintro e w1 ⟨rfl, hb1⟩
  have hX1 := (hb1.block w.heap.size (by simp)).trans (heap_alloc_new w _)
  have HB1 := hide (thenB (unhide HB0) hb1)
  have hz1 : w.heap.size < w1.heap.size := by have := hb1.size; simp at this; omega
  have HX1 := hide hX1
  have f0 := (boxAt hX1 0).1; have f1 := (boxAt hX1 1).1; have f2 := (boxAt hX1 2).1; have f3 := (boxAt hX1 3).1; have f4 := (boxAt hX1 4).1
  simp at f0 f1 f2 f3 f4
  clear hb1 hX1 HB0
  go_wp2_with fail
  have HBa := hide ((unhide HB1).alloc (unhide HB1).size (.cells #[.int .i64 k, .int .i64 n, .string s, .slice A m1 c, .slice A' m2 c'] 25))
  refine (few_list (some ⟨w1.heap.size, 0, none⟩) 1 [V] _ (elsAt_one (heap_alloc_new _ _) ((unhide HV).later (unhide HBa))) (by simp)).mono ?_
  rintro e w2 ⟨rfl, hb2⟩
  have HB2 := hide (advB (unhide HB1) hb2)
  have hX2 := (hb2.block w.heap.size (by simp; omega)).trans ((heap_alloc_old _ _ (by omega)).trans (unhide HX1))
  have hz2 : w.heap.size < w2.heap.size := by have := hb2.size; simp at this; omega
  have HX2 := hide hX2
  clear f0 f1 f2 f3 f4
  have f0 := (boxAt hX2 0).1; have f1 := (boxAt hX2 1).1; have f2 := (boxAt hX2 2).1; have f3 := (boxAt hX2 3).1; have f4 := (boxAt hX2 4).1
  simp at f0 f1 f2 f3 f4
  clear hb2 hX2 HBa HX1 HB1
  cases hfew : fewAll [V] with
  | false =>
    clear hfew
    go_wp2_with fail
    go_ret
    exact ⟨rfl, unhide HB2⟩
  | true =>
    by_cases hl2 : 2000 < ml
    · have b1 : decide ((2000 : Int) < (ml : Int)) = true := decide_eq_true (by omega)
      clear hfew
      go_wp2_with fail
      go_ret
      exact ⟨rfl, unhide HB2⟩
    have b1 : decide ((2000 : Int) < (ml : Int)) = false := decide_eq_false (by omega)
    simp only [fewAll, List.all_cons, List.all_nil, Bool.and_true] at hfew
    obtain ⟨n1, n2'⟩ := few_enc' (unhide HV) hfew
    have H1 := hide n1; have H2 := hide n2'
    have HRL := hide (show l.length ≤ 1000000000 by have := unhide HML; omega)
    clear hfew n1 n2'
    go_wp2_with fail
    refine (encode_b ((unhide HV).later (unhide HB2)) (unhide H1) (unhide H2) ((unhide HE).to hw (unhide HB2)) (Nat.le_trans hw (unhide HB2).size)).mono ?_
    rintro e w3 ⟨b3, rfl, hB3, hb3⟩
    have HB3 := hide (thenB (unhide HB2) hb3)
    have hX3 := (hb3.block w.heap.size hz2).trans (unhide HX2)
    have HX3 := hide hX3; have HC3 := hide hB3
    have hz3 : w.heap.size < w3.heap.size := by have := hb3.size; omega
    clear f0 f1 f2 f3 f4
    have f0 := (boxAt hX3 0).1; have f1 := (boxAt hX3 1).1; have f2 := (boxAt hX3 2).1; have f3 := (boxAt hX3 3).1; have f4 := (boxAt hX3 4).1
    simp at f0 f1 f2 f3 f4
    clear hb3 hX3 hB3 HX2 HB2
    go_wp2_with fail
    refine (check_any V (unhide H1) _ _ ((unhide HV).later (unhide HB3))).mono ?_
    rintro e w4 ⟨rfl, hb4⟩
    have HB4 := hide (thenB (unhide HB3) hb4)
    have hX4 := (hb4.block w.heap.size hz3).trans (unhide HX3)
    have HX4 := hide hX4; have HC4 := hide ((unhide HC3).later hb4)
    have hz4 : w.heap.size < w4.heap.size := by have := hb4.size; omega
    clear f0 f1 f2 f3 f4
    have f0 := (boxAt hX4 0).1; have f1 := (boxAt hX4 1).1; have f2 := (boxAt hX4 2).1; have f3 := (boxAt hX4 3).1; have f4 := (boxAt hX4 4).1
    simp at f0 f1 f2 f3 f4
    clear hb4 hX4 HX3 HC3 HB3
    by_cases hE1 : chkE V = 0
    case neg =>
      have q1 : (chkE V == 0) = false := by simpa using hE1
      generalize chkE V = z1 at q1 ⊢
      have HBk := HB4
      clear hE1 HB4 HC4 HX4 f0 f1 f2 f3 f4
      go_wp2_with fail
      refine (decode_b (l := l) ((unhide HR).later (unhide HBk)) (unhide HRL) ((unhide HE).to hw (unhide HBk)) (Nat.le_trans hw (unhide HBk).size)).mono ?_
      rintro e w8 ⟨he, hb8⟩
      have HB8 := hide (thenB (unhide HBk) hb8)
      have HR8 := hide ((unhide HR).later (unhide HB8))
      clear hb8 HBk
      cases hd : decF l with
      | none =>
        rw [hd] at he
        simp only at he
        subst he
        clear hd
        go_wp2_with fail
        refine (same_any zeroVa zeroVa _ _ _ (VAt.zero _) (VAt.zero _)).mono ?_
        rintro e w9 ⟨he, hb9⟩
        rw [(same_iff zeroVa zeroVa).2 rfl] at he
        subst he
        have HB9 := hide (advB (unhide HB8) hb9)
        clear hb9
        go_wp2_with fail
        go_ret
        exact ⟨rfl, unhide HB9⟩
      | some X =>
        rw [hd] at he
        obtain ⟨v8, rfl, hv8⟩ := he
        obtain ⟨x1, x2, x3, x4, x5, x6, x7, x8, x9, rfl⟩ := VIn.form hv8
        obtain ⟨hxc, hxl⟩ := decF_some hd
        have HW8 := hide hv8.at
        have HXC := hide hxc; have HXL := hide hxl
        clear hv8 hd hxc hxl
        go_wp2_with fail
        have hb8a := (unhide HB8).alloc (unhide HB8).size (.cells #[.int .i64 x1, .int .i64 x2, .string x3, .slice x4 x5 x6, .slice x7 x8 x9] 25)
        refine (encode_b ((unhide HW8).later ((Below.refl _ _).alloc (Nat.le_refl _) _)) (chk_nest (unhide HXC)) (by rw [← unhide HXL]; exact unhide HRL) ((unhide HE).to hw hb8a) (Nat.le_trans hw hb8a.size)).mono ?_
        rintro e w9 ⟨b9, he, hB9, hb9⟩
        rw [unhide HXC] at he
        subst he
        rw [encF_ok (unhide HXC), ← unhide HXL] at hB9
        have HB9 := hide (thenB hb8a hb9)
        have HW9 := hide ((unhide HW8).later (advB (Below.refl _ _) hb9))
        have hY9 := (hb9.block w8.heap.size (by simp)).trans (heap_alloc_new _ _)
        have g0 := (boxAt hY9 0).1; have g1 := (boxAt hY9 1).1; have g2 := (boxAt hY9 2).1; have g3 := (boxAt hY9 3).1; have g4 := (boxAt hY9 4).1
        simp at g0 g1 g2 g3 g4
        have k1 := hB9.conv
        have k2 := ((unhide HR8).later (advB (Below.refl _ _) hb9)).conv
        generalize (⟨l.toArray⟩ : ByteArray) = st at k1 k2
        clear hb9 hY9 hB9 hb8a HR8 HW8
        go_wp2_with fail
        refine (check_any X (chk_nest (unhide HXC)) _ _ (unhide HW9)).mono ?_
        rintro e w10 ⟨he, hb10⟩
        rw [unhide HXC] at he
        subst he
        have HB10 := hide (thenB (unhide HB9) hb10)
        clear hb10 g0 g1 g2 g3 g4 k1 k2
        go_wp2_with fail
        go_ret
        exact ⟨rfl, unhide HB10⟩
    case pos =>
      have hc4 := unhide HC4
      rw [encF_ok hE1] at hc4
      have hdec := decF_enc hE1 (unhide HV).bd
      rw [hE1]
      have HC := hide hc4; have HDEC := hide hdec; have HE1 := hide hE1
      clear hE1 hc4 hdec HC4
      go_wp2_with fail
      refine (decode_b (unhide HC) (unhide H2) ((unhide HE).to hw (unhide HB4)) (Nat.le_trans hw (unhide HB4).size)).mono ?_
      rintro e w5 ⟨he, hb5⟩
      rw [unhide HDEC] at he
      obtain ⟨v5, rfl, hv5⟩ := he
      obtain ⟨a1, a2, a3, a4, a5, a6, a7, a8, a9, rfl⟩ := VIn.form hv5
      have HB5 := hide (thenB (unhide HB4) hb5)
      have HW5 := hide hv5.at
      have hX5 := (hb5.block w.heap.size hz4).trans (unhide HX4)
      have HX5 := hide hX5
      have hz5 : w.heap.size < w5.heap.size := by have := hb5.size; omega
      clear f0 f1 f2 f3 f4
      have f0 := (boxAt hX5 0).1; have f1 := (boxAt hX5 1).1; have f2 := (boxAt hX5 2).1; have f3 := (boxAt hX5 3).1; have f4 := (boxAt hX5 4).1
      simp at f0 f1 f2 f3 f4
      clear hb5 hX5 HX4 HB4 hv5
      go_wp2_with fail
      have hb5a := (unhide HB5).alloc (unhide HB5).size (.cells #[.int .i64 a1, .int .i64 a2, .string a3, .slice a4 a5 a6, .slice a7 a8 a9] 25)
      refine (same_any V V _ _ _ ((unhide HV).later hb5a) ((unhide HW5).later ((Below.refl _ _).alloc (Nat.le_refl _) _))).mono ?_
      rintro e w6 ⟨he, hb6⟩
      rw [(same_iff V V).2 rfl] at he
      subst he
      have HB6 := hide (advB (unhide HB5) hb6)
      have HW6 := hide ((unhide HW5).later (advB (Below.refl _ _) hb6))
      have hX6 := (hb6.block w.heap.size (by simp; omega)).trans ((heap_alloc_old _ _ hz5).trans (unhide HX5))
      have hY6 := (hb6.block w5.heap.size (by simp)).trans (heap_alloc_new _ _)
      clear f0 f1 f2 f3 f4
      have f0 := (boxAt hX6 0).1; have f1 := (boxAt hX6 1).1; have f2 := (boxAt hX6 2).1; have f3 := (boxAt hX6 3).1; have f4 := (boxAt hX6 4).1
      have g0 := (boxAt hY6 0).1; have g1 := (boxAt hY6 1).1; have g2 := (boxAt hY6 2).1; have g3 := (boxAt hY6 3).1; have g4 := (boxAt hY6 4).1
      simp at f0 f1 f2 f3 f4 g0 g1 g2 g3 g4
      clear hb6 hX6 hY6 HX5 HB5 HW5 hb5a
      go_wp2_with fail
      refine (rsame_any V V _ _ _ ((unhide HV).later (unhide HB6)) (unhide HW6)).mono ?_
      rintro e w7 ⟨he, hb7⟩
      rw [(same_iff V V).2 rfl] at he
      subst he
      have HBk := hide (thenB (unhide HB6) hb7)
      clear hb7 f0 f1 f2 f3 f4 g0 g1 g2 g3 g4 HB6 HW6
      go_wp2_with fail
      refine (decode_b (l := l) ((unhide HR).later (unhide HBk)) (unhide HRL) ((unhide HE).to hw (unhide HBk)) (Nat.le_trans hw (unhide HBk).size)).mono ?_
      rintro e w8 ⟨he, hb8⟩
      have HB8 := hide (thenB (unhide HBk) hb8)
      have HR8 := hide ((unhide HR).later (unhide HB8))
      clear hb8 HBk
      cases hd : decF l with
      | none =>
        rw [hd] at he
        simp only at he
        subst he
        clear hd
        go_wp2_with fail
        refine (same_any zeroVa zeroVa _ _ _ (VAt.zero _) (VAt.zero _)).mono ?_
        rintro e w9 ⟨he, hb9⟩
        rw [(same_iff zeroVa zeroVa).2 rfl] at he
        subst he
        have HB9 := hide (advB (unhide HB8) hb9)
        clear hb9
        go_wp2_with fail
        go_ret
        exact ⟨rfl, unhide HB9⟩
      | some X =>
        rw [hd] at he
        obtain ⟨v8, rfl, hv8⟩ := he
        obtain ⟨x1, x2, x3, x4, x5, x6, x7, x8, x9, rfl⟩ := VIn.form hv8
        obtain ⟨hxc, hxl⟩ := decF_some hd
        have HW8 := hide hv8.at
        have HXC := hide hxc; have HXL := hide hxl
        clear hv8 hd hxc hxl
        go_wp2_with fail
        have hb8a := (unhide HB8).alloc (unhide HB8).size (.cells #[.int .i64 x1, .int .i64 x2, .string x3, .slice x4 x5 x6, .slice x7 x8 x9] 25)
        refine (encode_b ((unhide HW8).later ((Below.refl _ _).alloc (Nat.le_refl _) _)) (chk_nest (unhide HXC)) (by rw [← unhide HXL]; exact unhide HRL) ((unhide HE).to hw hb8a) (Nat.le_trans hw hb8a.size)).mono ?_
        rintro e w9 ⟨b9, he, hB9, hb9⟩
        rw [unhide HXC] at he
        subst he
        rw [encF_ok (unhide HXC), ← unhide HXL] at hB9
        have HB9 := hide (thenB hb8a hb9)
        have HW9 := hide ((unhide HW8).later (advB (Below.refl _ _) hb9))
        have hY9 := (hb9.block w8.heap.size (by simp)).trans (heap_alloc_new _ _)
        have g0 := (boxAt hY9 0).1; have g1 := (boxAt hY9 1).1; have g2 := (boxAt hY9 2).1; have g3 := (boxAt hY9 3).1; have g4 := (boxAt hY9 4).1
        simp at g0 g1 g2 g3 g4
        have k1 := hB9.conv
        have k2 := ((unhide HR8).later (advB (Below.refl _ _) hb9)).conv
        generalize (⟨l.toArray⟩ : ByteArray) = st at k1 k2
        clear hb9 hY9 hB9 hb8a HR8 HW8
        go_wp2_with fail
        refine (check_any X (chk_nest (unhide HXC)) _ _ (unhide HW9)).mono ?_
        rintro e w10 ⟨he, hb10⟩
        rw [unhide HXC] at he
        subst he
        have HB10 := hide (thenB (unhide HB9) hb10)
        clear hb10 g0 g1 g2 g3 g4 k1 k2
        go_wp2_with fail
        go_ret
        exact ⟨rfl, unhide HB10⟩
end Go.Proofs.YtpjfpcbodjmbnaaDoor
