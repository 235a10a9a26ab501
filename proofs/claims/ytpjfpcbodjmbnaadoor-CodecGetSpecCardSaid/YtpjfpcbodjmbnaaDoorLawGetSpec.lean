/- The law CodecGetSpec returns true for every two values and every string. (Written by wip/tools/gen_get.py.) -/
import Derived.Test.YtpjfpcbodjmbnaaDoorCodRefGet
import Derived.Deep.QuietTactic
import Derived.BigQuiet
namespace Go.Proofs.YtpjfpcbodjmbnaaDoor
set_option linter.unusedSimpArgs false
set_option linter.unusedVariables false
open Go.RowKit Go.LawClose

theorem wp_region_quiet_C {P : Program} {C : World → Prop} {id : Nat} {Q : Exit → Act → World → Prop} {a : Act} {w : World} {l : List Oper} (hm : P.follows .mixedOrders = true) (hB : Region.lexB .any l.toArray = true) (hC : C (w.drewN 1))
    (h : wpQuiet P l.toArray C (fun a' => ∀ w', C w' → Q .normal a' w') l a) : (Code.region id l.toArray true).wp P Q a w :=
  wp_region_quiet hm hB hC (by simpa using h)
structure Cls (S : World → Prop) where
  w : World
  h : S w
theorem keep1 {w w' : World} {a : Addr} {v : Value} (h : w.cell? a = some v) (hb : Below w.heap.size w w') : w'.cell? a = some v := (hb.cell (World.block_lt_of_cell? w _ h)).trans h
theorem keep20 {W0 W W' : World} {a0 : Addr} {v0 : Value} {a1 : Addr} {v1 : Value} {a2 : Addr} {v2 : Value} {a3 : Addr} {v3 : Value} {a4 : Addr} {v4 : Value} {a5 : Addr} {v5 : Value} {a6 : Addr} {v6 : Value} {a7 : Addr} {v7 : Value} {a8 : Addr} {v8 : Value} {a9 : Addr} {v9 : Value} {a10 : Addr} {v10 : Value} {a11 : Addr} {v11 : Value} {a12 : Addr} {v12 : Value} {a13 : Addr} {v13 : Value} {a14 : Addr} {v14 : Value} {a15 : Addr} {v15 : Value} {a16 : Addr} {v16 : Value} {a17 : Addr} {v17 : Value} {a18 : Addr} {v18 : Value} {a19 : Addr} {v19 : Value}
    (h : (W.cell? a0 = some v0 ∧ W.cell? a1 = some v1 ∧ W.cell? a2 = some v2 ∧ W.cell? a3 = some v3 ∧ W.cell? a4 = some v4 ∧ W.cell? a5 = some v5 ∧ W.cell? a6 = some v6 ∧ W.cell? a7 = some v7 ∧ W.cell? a8 = some v8 ∧ W.cell? a9 = some v9 ∧ W.cell? a10 = some v10 ∧ W.cell? a11 = some v11 ∧ W.cell? a12 = some v12 ∧ W.cell? a13 = some v13 ∧ W.cell? a14 = some v14 ∧ W.cell? a15 = some v15 ∧ W.cell? a16 = some v16 ∧ W.cell? a17 = some v17 ∧ W.cell? a18 = some v18 ∧ W.cell? a19 = some v19) ∧ Below W0.heap.size W0 W) (hb : Below W.heap.size W W') : (W'.cell? a0 = some v0 ∧ W'.cell? a1 = some v1 ∧ W'.cell? a2 = some v2 ∧ W'.cell? a3 = some v3 ∧ W'.cell? a4 = some v4 ∧ W'.cell? a5 = some v5 ∧ W'.cell? a6 = some v6 ∧ W'.cell? a7 = some v7 ∧ W'.cell? a8 = some v8 ∧ W'.cell? a9 = some v9 ∧ W'.cell? a10 = some v10 ∧ W'.cell? a11 = some v11 ∧ W'.cell? a12 = some v12 ∧ W'.cell? a13 = some v13 ∧ W'.cell? a14 = some v14 ∧ W'.cell? a15 = some v15 ∧ W'.cell? a16 = some v16 ∧ W'.cell? a17 = some v17 ∧ W'.cell? a18 = some v18 ∧ W'.cell? a19 = some v19) ∧ Below W0.heap.size W0 W' := by
  obtain ⟨⟨h0, h1, h2, h3, h4, h5, h6, h7, h8, h9, h10, h11, h12, h13, h14, h15, h16, h17, h18, h19⟩, hB⟩ := h
  exact ⟨⟨keep1 h0 hb, keep1 h1 hb, keep1 h2 hb, keep1 h3 hb, keep1 h4 hb, keep1 h5 hb, keep1 h6 hb, keep1 h7 hb, keep1 h8 hb, keep1 h9 hb, keep1 h10 hb, keep1 h11 hb, keep1 h12 hb, keep1 h13 hb, keep1 h14 hb, keep1 h15 hb, keep1 h16 hb, keep1 h17 hb, keep1 h18 hb, keep1 h19 hb⟩, thenB hB hb⟩

set_option maxRecDepth 100000 in
set_option maxHeartbeats 16000000 in
theorem getSpec_any (V V' : Va) (v v' : Value) (key : ByteArray) (w : World) (hv : VAt w V v) (hv' : VAt w V' v') (hs2 : key.size ≤ 140737488351232) (hE : Env w) (hw : gTop ≤ w.heap.size) :
    Calls Tryd.prog 5 #[v, v', .string key] w (LawOk w) := by
  obtain ⟨k, n, s, A, m1, c, A', m2, c', rfl⟩ := hv.form
  obtain ⟨k2, n2, s2, B, m3, d, B', m4, d', rfl⟩ := hv'.form
  have HE := hide hE; have HV := hide hv; have HV' := hide hv'
  clear hE hv hv'
  go_enter Tryd.func5, Tryd.ntmps5
  go_wp2_with fail
  have HB0 := hide ((((Below.refl w.heap.size w).alloc (Nat.le_refl _) (.cells #[.int .i64 k, .int .i64 n, .string s, .slice A m1 c, .slice A' m2 c'] 25)).alloc (by simp) (.cells #[.int .i64 k2, .int .i64 n2, .string s2, .slice B m3 d, .slice B' m4 d'] 25)))
  refine (sane_any _ ((unhide HE).to hw (unhide HB0)) (Nat.le_trans hw (unhide HB0).size)).mono ?_
  rintro e w1 ⟨rfl, hb1⟩
  have hX1 := (hb1.block w.heap.size (by simp; omega)).trans ((heap_alloc_old _ _ (by simp)).trans (heap_alloc_new w _))
  have hY1 := (hb1.block (w.heap.size + 1) (by simp)).trans (heap_two w _ _)
  have HB1 := hide (thenB (unhide HB0) hb1)
  have hz1 : w.heap.size + 1 < w1.heap.size := by have := hb1.size; simp at this; omega
  have HX1 := hide hX1; have HY1 := hide hY1
  have f0 := (boxAt hX1 0).1; have f1 := (boxAt hX1 1).1; have f2 := (boxAt hX1 2).1; have f3 := (boxAt hX1 3).1; have f4 := (boxAt hX1 4).1
  have g0 := (boxAt hY1 0).1; have g1 := (boxAt hY1 1).1; have g2 := (boxAt hY1 2).1; have g3 := (boxAt hY1 3).1; have g4 := (boxAt hY1 4).1
  simp at f0 f1 f2 f3 f4 g0 g1 g2 g3 g4
  clear hb1 hX1 hY1 HB0
  go_wp2_with fail
  have HBa := hide ((unhide HB1).alloc (unhide HB1).size (.cells #[.int .i64 k, .int .i64 n, .string s, .slice A m1 c, .slice A' m2 c', .int .i64 k2, .int .i64 n2, .string s2, .slice B m3 d, .slice B' m4 d'] 25))
  refine (few_list (some ⟨w1.heap.size, 0, none⟩) 2 [V, V'] _ (elsAt_two (heap_alloc_new _ _) ((unhide HV).later (unhide HBa)) ((unhide HV').later (unhide HBa))) (by simp)).mono ?_
  rintro e w2 ⟨rfl, hb2⟩
  have HB2 := hide (advB (unhide HB1) hb2)
  have hX2 := (hb2.block w.heap.size (by simp; omega)).trans ((heap_alloc_old _ _ (by omega)).trans (unhide HX1))
  have hY2 := (hb2.block (w.heap.size + 1) (by simp; omega)).trans ((heap_alloc_old _ _ hz1).trans (unhide HY1))
  have hz2 : w.heap.size + 1 < w2.heap.size := by have := hb2.size; simp at this; omega
  have HX2 := hide hX2; have HY2 := hide hY2
  clear f0 f1 f2 f3 f4 g0 g1 g2 g3 g4
  have f0 := (boxAt hX2 0).1; have f1 := (boxAt hX2 1).1; have f2 := (boxAt hX2 2).1; have f3 := (boxAt hX2 3).1; have f4 := (boxAt hX2 4).1
  simp at f0 f1 f2 f3 f4
  clear hb2 hX2 hY2 HBa
  cases hfew : fewAll [V, V'] with
  | false =>
    clear hfew
    go_wp2_with fail
    go_ret
    exact ⟨rfl, unhide HB2⟩
  | true =>
    clear hfew
    by_cases hl2 : 1000 < key.size
    · have b1 : decide ((1000 : Int) < (key.size : Int)) = true := decide_eq_true (by omega)
      go_wp2_with fail
      go_ret
      exact ⟨rfl, unhide HB2⟩
    have b1 : decide ((1000 : Int) < (key.size : Int)) = false := decide_eq_false (by omega)
    go_wp2_with fail
    refine (get_any V _ key w2 ((unhide HV).later (unhide HB2))).mono ?_
    rintro e w3 ⟨v3, rfl, hv3, hb3⟩
    obtain ⟨x1, x2, x3, x4, x5, x6, x7, x8, x9, rfl⟩ := hv3.form
    have HB3 := hide (thenB (unhide HB2) hb3)
    have hX3 := (hb3.block w.heap.size (by omega)).trans (unhide HX2)
    have hY3 := (hb3.block (w.heap.size + 1) hz2).trans (unhide HY2)
    have HX3 := hide hX3; have HY3 := hide hY3; have HV3 := hide hv3
    have hz3 : w.heap.size + 1 < w3.heap.size := by have := hb3.size; omega
    have hz30 : w.heap.size < w3.heap.size := by omega
    clear f0 f1 f2 f3 f4
    have f0 := (boxAt hX3 0).1; have f1 := (boxAt hX3 1).1; have f2 := (boxAt hX3 2).1; have f3 := (boxAt hX3 3).1; have f4 := (boxAt hX3 4).1
    simp at f0 f1 f2 f3 f4
    clear hb3 hX3 hY3 hv3
    go_wp2_with fail
    have hb3a := (unhide HB3).alloc (unhide HB3).size (.cells #[.int .i64 x1, .int .i64 x2, .string x3, .slice x4 x5 x6, .slice x7 x8 x9] 25)
    refine (rget_any V _ key _ ((unhide HV).later hb3a)).mono ?_
    rintro e w4 ⟨v4, rfl, hv4, hb4⟩
    obtain ⟨y1, y2, y3, y4, y5, y6, y7, y8, y9, rfl⟩ := hv4.form
    have HB4 := hide (thenB hb3a hb4)
    have hX4 := (hb4.block w.heap.size (by simp; omega)).trans ((heap_alloc_old _ _ hz30).trans (unhide HX3))
    have hY4 := (hb4.block (w.heap.size + 1) (by simp; omega)).trans ((heap_alloc_old _ _ hz3).trans (unhide HY3))
    have hZ4 := (hb4.block w3.heap.size (by simp)).trans (heap_alloc_new _ _)
    have hz4 : w3.heap.size < w4.heap.size := by have := hb4.size; simp at this; omega
    have HV4 := hide (((unhide HV3).later (advB (Below.refl _ _) hb4)))
    have HV4' := hide hv4
    have hS : ((w4.alloc (.cells #[.int .i64 y1, .int .i64 y2, .string y3, .slice y4 y5 y6, .slice y7 y8 y9] 25)).cell? ⟨w.heap.size, 0, none⟩ = some (.int .i64 k) ∧ (w4.alloc (.cells #[.int .i64 y1, .int .i64 y2, .string y3, .slice y4 y5 y6, .slice y7 y8 y9] 25)).cell? ⟨w.heap.size, 1, none⟩ = some (.int .i64 n) ∧ (w4.alloc (.cells #[.int .i64 y1, .int .i64 y2, .string y3, .slice y4 y5 y6, .slice y7 y8 y9] 25)).cell? ⟨w.heap.size, 2, none⟩ = some (.string s) ∧ (w4.alloc (.cells #[.int .i64 y1, .int .i64 y2, .string y3, .slice y4 y5 y6, .slice y7 y8 y9] 25)).cell? ⟨w.heap.size, 3, none⟩ = some (.slice A m1 c) ∧ (w4.alloc (.cells #[.int .i64 y1, .int .i64 y2, .string y3, .slice y4 y5 y6, .slice y7 y8 y9] 25)).cell? ⟨w.heap.size, 4, none⟩ = some (.slice A' m2 c') ∧ (w4.alloc (.cells #[.int .i64 y1, .int .i64 y2, .string y3, .slice y4 y5 y6, .slice y7 y8 y9] 25)).cell? ⟨w.heap.size + 1, 0, none⟩ = some (.int .i64 k2) ∧ (w4.alloc (.cells #[.int .i64 y1, .int .i64 y2, .string y3, .slice y4 y5 y6, .slice y7 y8 y9] 25)).cell? ⟨w.heap.size + 1, 1, none⟩ = some (.int .i64 n2) ∧ (w4.alloc (.cells #[.int .i64 y1, .int .i64 y2, .string y3, .slice y4 y5 y6, .slice y7 y8 y9] 25)).cell? ⟨w.heap.size + 1, 2, none⟩ = some (.string s2) ∧ (w4.alloc (.cells #[.int .i64 y1, .int .i64 y2, .string y3, .slice y4 y5 y6, .slice y7 y8 y9] 25)).cell? ⟨w.heap.size + 1, 3, none⟩ = some (.slice B m3 d) ∧ (w4.alloc (.cells #[.int .i64 y1, .int .i64 y2, .string y3, .slice y4 y5 y6, .slice y7 y8 y9] 25)).cell? ⟨w.heap.size + 1, 4, none⟩ = some (.slice B' m4 d') ∧ (w4.alloc (.cells #[.int .i64 y1, .int .i64 y2, .string y3, .slice y4 y5 y6, .slice y7 y8 y9] 25)).cell? ⟨w3.heap.size, 0, none⟩ = some (.int .i64 x1) ∧ (w4.alloc (.cells #[.int .i64 y1, .int .i64 y2, .string y3, .slice y4 y5 y6, .slice y7 y8 y9] 25)).cell? ⟨w3.heap.size, 1, none⟩ = some (.int .i64 x2) ∧ (w4.alloc (.cells #[.int .i64 y1, .int .i64 y2, .string y3, .slice y4 y5 y6, .slice y7 y8 y9] 25)).cell? ⟨w3.heap.size, 2, none⟩ = some (.string x3) ∧ (w4.alloc (.cells #[.int .i64 y1, .int .i64 y2, .string y3, .slice y4 y5 y6, .slice y7 y8 y9] 25)).cell? ⟨w3.heap.size, 3, none⟩ = some (.slice x4 x5 x6) ∧ (w4.alloc (.cells #[.int .i64 y1, .int .i64 y2, .string y3, .slice y4 y5 y6, .slice y7 y8 y9] 25)).cell? ⟨w3.heap.size, 4, none⟩ = some (.slice x7 x8 x9) ∧ (w4.alloc (.cells #[.int .i64 y1, .int .i64 y2, .string y3, .slice y4 y5 y6, .slice y7 y8 y9] 25)).cell? ⟨w4.heap.size, 0, none⟩ = some (.int .i64 y1) ∧ (w4.alloc (.cells #[.int .i64 y1, .int .i64 y2, .string y3, .slice y4 y5 y6, .slice y7 y8 y9] 25)).cell? ⟨w4.heap.size, 1, none⟩ = some (.int .i64 y2) ∧ (w4.alloc (.cells #[.int .i64 y1, .int .i64 y2, .string y3, .slice y4 y5 y6, .slice y7 y8 y9] 25)).cell? ⟨w4.heap.size, 2, none⟩ = some (.string y3) ∧ (w4.alloc (.cells #[.int .i64 y1, .int .i64 y2, .string y3, .slice y4 y5 y6, .slice y7 y8 y9] 25)).cell? ⟨w4.heap.size, 3, none⟩ = some (.slice y4 y5 y6) ∧ (w4.alloc (.cells #[.int .i64 y1, .int .i64 y2, .string y3, .slice y4 y5 y6, .slice y7 y8 y9] 25)).cell? ⟨w4.heap.size, 4, none⟩ = some (.slice y7 y8 y9)) ∧ Below (w4.alloc (.cells #[.int .i64 y1, .int .i64 y2, .string y3, .slice y4 y5 y6, .slice y7 y8 y9] 25)).heap.size (w4.alloc (.cells #[.int .i64 y1, .int .i64 y2, .string y3, .slice y4 y5 y6, .slice y7 y8 y9] 25)) (w4.alloc (.cells #[.int .i64 y1, .int .i64 y2, .string y3, .slice y4 y5 y6, .slice y7 y8 y9] 25)) := by
      have q1 := boxAt ((heap_alloc_old w4 (.cells #[.int .i64 y1, .int .i64 y2, .string y3, .slice y4 y5 y6, .slice y7 y8 y9] 25) (by omega)).trans hX4)
      have q2 := boxAt ((heap_alloc_old w4 (.cells #[.int .i64 y1, .int .i64 y2, .string y3, .slice y4 y5 y6, .slice y7 y8 y9] 25) (by omega)).trans hY4)
      have q3 := boxAt ((heap_alloc_old w4 (.cells #[.int .i64 y1, .int .i64 y2, .string y3, .slice y4 y5 y6, .slice y7 y8 y9] 25) (by omega)).trans hZ4)
      have q4 := boxAt (heap_alloc_new w4 (.cells #[.int .i64 y1, .int .i64 y2, .string y3, .slice y4 y5 y6, .slice y7 y8 y9] 25))
      exact ⟨⟨(q1 0).1, (q1 1).1, (q1 2).1, (q1 3).1, (q1 4).1, (q2 0).1, (q2 1).1, (q2 2).1, (q2 3).1, (q2 4).1, (q3 0).1, (q3 1).1, (q3 2).1, (q3 3).1, (q3 4).1, (q4 0).1, (q4 1).1, (q4 2).1, (q4 3).1, (q4 4).1⟩, Below.refl _ _⟩
    have HBa := hide ((unhide HB4).alloc (unhide HB4).size (.cells #[.int .i64 y1, .int .i64 y2, .string y3, .slice y4 y5 y6, .slice y7 y8 y9] 25))
    have HVa := hide ((unhide HV).later (unhide HBa)); have HVb := hide ((unhide HV').later (unhide HBa))
    have HVc := hide ((unhide HV4).later (hb := (Below.refl w4.heap.size w4).alloc (Nat.le_refl _) (.cells #[.int .i64 y1, .int .i64 y2, .string y3, .slice y4 y5 y6, .slice y7 y8 y9] 25)))
    have HVd := hide ((unhide HV4').later (hb := (Below.refl w4.heap.size w4).alloc (Nat.le_refl _) (.cells #[.int .i64 y1, .int .i64 y2, .string y3, .slice y4 y5 y6, .slice y7 y8 y9] 25)))
    have HSS := hide hS
    clear hb4 hX4 hY4 hZ4 hv4 hb3a hS f0 f1 f2 f3 f4 HX3 HY3 HX2 HY2 HX1 HY1 HB1 HB2 HB3 HV3 HV4 HV4' HV HV'
    go_wp2_with fail
    revert HBa HVa HVb HVc HVd HSS
    generalize (w4.alloc (.cells #[.int .i64 y1, .int .i64 y2, .string y3, .slice y4 y5 y6, .slice y7 y8 y9] 25)) = W6
    generalize (getF V key).isSome = gs
    generalize (getF V key).getD zeroVa = G
    intro HBa HVa HVb HVc HVd HSS
    have HC1 := hide (fun (W : World) (hW : Below W6.heap.size W6 W) => same_any V V' _ _ W ((unhide HVa).later hW) ((unhide HVb).later hW))
    have HC2 := hide (fun (W : World) (hW : Below W6.heap.size W6 W) => rsame_any V V' _ _ W ((unhide HVa).later hW) ((unhide HVb).later hW))
    have HC3 := hide (fun (W : World) (hW : Below W6.heap.size W6 W) => (same_any V V _ _ W ((unhide HVa).later hW) ((unhide HVa).later hW)).mono (fun e w' h => by rw [(same_iff V V).2 rfl] at h; exact h : ∀ e w', _ → (e = .returned (.bool true) ∧ Below W.heap.size W w')))
    have HC4 := hide (fun (W : World) (hW : Below W6.heap.size W6 W) => (rsame_any G G _ _ W ((unhide HVc).later hW) ((unhide HVd).later hW)).mono (fun e w' h => by rw [(same_iff G G).2 rfl] at h; exact h : ∀ e w', _ → (e = .returned (.bool true) ∧ Below W.heap.size W w')))
    generalize V.same V' = sb at HC1 HC2
    clear HVa HVb HVc HVd
    have HH := unhide HSS
    clear HSS
    obtain ⟨⟨q0, q1, q2, q3, q4, q5, q6, q7, q8, q9, q10, q11, q12, q13, q14, q15, q16, q17, q18, q19⟩, _⟩ := HH
    have hT0 : ∀ x : Cls (fun W => Below W6.heap.size W6 W), x.w.cell? ⟨w.heap.size, 0, none⟩ = some (.int .i64 k) := fun x => keep1 q0 x.h
    have hT1 : ∀ x : Cls (fun W => Below W6.heap.size W6 W), x.w.cell? ⟨w.heap.size, 1, none⟩ = some (.int .i64 n) := fun x => keep1 q1 x.h
    have hT2 : ∀ x : Cls (fun W => Below W6.heap.size W6 W), x.w.cell? ⟨w.heap.size, 2, none⟩ = some (.string s) := fun x => keep1 q2 x.h
    have hT3 : ∀ x : Cls (fun W => Below W6.heap.size W6 W), x.w.cell? ⟨w.heap.size, 3, none⟩ = some (.slice A m1 c) := fun x => keep1 q3 x.h
    have hT4 : ∀ x : Cls (fun W => Below W6.heap.size W6 W), x.w.cell? ⟨w.heap.size, 4, none⟩ = some (.slice A' m2 c') := fun x => keep1 q4 x.h
    have hT5 : ∀ x : Cls (fun W => Below W6.heap.size W6 W), x.w.cell? ⟨w.heap.size + 1, 0, none⟩ = some (.int .i64 k2) := fun x => keep1 q5 x.h
    have hT6 : ∀ x : Cls (fun W => Below W6.heap.size W6 W), x.w.cell? ⟨w.heap.size + 1, 1, none⟩ = some (.int .i64 n2) := fun x => keep1 q6 x.h
    have hT7 : ∀ x : Cls (fun W => Below W6.heap.size W6 W), x.w.cell? ⟨w.heap.size + 1, 2, none⟩ = some (.string s2) := fun x => keep1 q7 x.h
    have hT8 : ∀ x : Cls (fun W => Below W6.heap.size W6 W), x.w.cell? ⟨w.heap.size + 1, 3, none⟩ = some (.slice B m3 d) := fun x => keep1 q8 x.h
    have hT9 : ∀ x : Cls (fun W => Below W6.heap.size W6 W), x.w.cell? ⟨w.heap.size + 1, 4, none⟩ = some (.slice B' m4 d') := fun x => keep1 q9 x.h
    have hT10 : ∀ x : Cls (fun W => Below W6.heap.size W6 W), x.w.cell? ⟨w3.heap.size, 0, none⟩ = some (.int .i64 x1) := fun x => keep1 q10 x.h
    have hT11 : ∀ x : Cls (fun W => Below W6.heap.size W6 W), x.w.cell? ⟨w3.heap.size, 1, none⟩ = some (.int .i64 x2) := fun x => keep1 q11 x.h
    have hT12 : ∀ x : Cls (fun W => Below W6.heap.size W6 W), x.w.cell? ⟨w3.heap.size, 2, none⟩ = some (.string x3) := fun x => keep1 q12 x.h
    have hT13 : ∀ x : Cls (fun W => Below W6.heap.size W6 W), x.w.cell? ⟨w3.heap.size, 3, none⟩ = some (.slice x4 x5 x6) := fun x => keep1 q13 x.h
    have hT14 : ∀ x : Cls (fun W => Below W6.heap.size W6 W), x.w.cell? ⟨w3.heap.size, 4, none⟩ = some (.slice x7 x8 x9) := fun x => keep1 q14 x.h
    have hT15 : ∀ x : Cls (fun W => Below W6.heap.size W6 W), x.w.cell? ⟨w4.heap.size, 0, none⟩ = some (.int .i64 y1) := fun x => keep1 q15 x.h
    have hT16 : ∀ x : Cls (fun W => Below W6.heap.size W6 W), x.w.cell? ⟨w4.heap.size, 1, none⟩ = some (.int .i64 y2) := fun x => keep1 q16 x.h
    have hT17 : ∀ x : Cls (fun W => Below W6.heap.size W6 W), x.w.cell? ⟨w4.heap.size, 2, none⟩ = some (.string y3) := fun x => keep1 q17 x.h
    have hT18 : ∀ x : Cls (fun W => Below W6.heap.size W6 W), x.w.cell? ⟨w4.heap.size, 3, none⟩ = some (.slice y4 y5 y6) := fun x => keep1 q18 x.h
    have hT19 : ∀ x : Cls (fun W => Below W6.heap.size W6 W), x.w.cell? ⟨w4.heap.size, 4, none⟩ = some (.slice y7 y8 y9) := fun x => keep1 q19 x.h
    have hTn : Nonempty (Cls (fun W => Below W6.heap.size W6 W)) := ⟨⟨_, belowDrewN 1 (Below.refl _ _)⟩⟩
    clear q0 q1 q2 q3 q4 q5 q6 q7 q8 q9 q10 q11 q12 q13 q14 q15 q16 q17 q18 q19
    refine wp_region_quiet_C (C := fun W => ∃ x : Cls (fun W => Below W6.heap.size W6 W), W = x.w) (by kernel_rfl) (by kernel_rfl) ⟨⟨_, belowDrewN 1 (Below.refl _ _)⟩, rfl⟩ ?_
    go_big_quiet_step (fail)
    go_big_quiet_step (fail)
    go_big_quiet_step ((go_at_call 21; exact ((unhide HC1) _ (Cls.h _)).mono fun e w'' ⟨he, hb⟩ => ⟨he, ⟨w'', thenB (Cls.h _) hb⟩, rfl⟩))
    go_big_quiet_step (fail)
    go_big_quiet_step (fail)
    go_big_quiet_step ((go_at_call 18; exact ((unhide HC2) _ (Cls.h _)).mono fun e w'' ⟨he, hb⟩ => ⟨he, ⟨w'', thenB (Cls.h _) hb⟩, rfl⟩))
    repeat (go_big_quiet_step (fail))
    go_big_quiet_step ((go_at_call 21; exact ((unhide HC3) _ (Cls.h _)).mono fun e w'' ⟨he, hb⟩ => ⟨he, ⟨w'', thenB (Cls.h _) hb⟩, rfl⟩))
    repeat (go_big_quiet_step (fail))
    go_big_quiet_step ((go_at_call 18; exact ((unhide HC4) _ (Cls.h _)).mono fun e w'' ⟨he, hb⟩ => ⟨he, ⟨w'', thenB (Cls.h _) hb⟩, rfl⟩))
    repeat (go_big_quiet_step (fail))
    refine wpQuiet_nil ?_
    rintro _ ⟨x, rfl⟩
    have HBW := hide (thenB (unhide HBa) x.h)
    go_wp2_with fail
    go_ret
    exact ⟨by first | rfl | simp, unhide HBW⟩
end Go.Proofs.YtpjfpcbodjmbnaaDoor
