/- The law CodecEncodeSpec returns true for every value. (Written by wip/tools/gen_encspec.py.) -/
import Derived.Test.YtpjfpcbodjmbnaaDoorCodREncode
import Derived.Test.YtpjfpcbodjmbnaaDoorCodSane
import Derived.Test.YtpjfpcbodjmbnaaDoorLawDifferent
import Derived.Deep.QuietTactic
import Derived.BigQuiet
namespace Go.Proofs.YtpjfpcbodjmbnaaDoor
set_option linter.unusedSimpArgs false
set_option linter.unusedVariables false
open Go.RowKit Go.LawClose

theorem wp_region_quiet_CE {P : Program} {C : World → Prop} {id : Nat} {Q : Exit → Act → World → Prop} {a : Act} {w : World} {l : List Oper} (hm : P.follows .mixedOrders = true) (hB : Region.lexB .any l.toArray = true) (hC : C (w.drewN 1))
    (h : wpQuiet P l.toArray C (fun a' => ∀ w', C w' → Q .normal a' w') l a) : (Code.region id l.toArray true).wp P Q a w :=
  wp_region_quiet hm hB hC (by simpa using h)
structure ClsE (S : World → Prop) where
  w : World
  h : S w
theorem keep1E {w w' : World} {a : Addr} {v : Value} (h : w.cell? a = some v) (hb : Below w.heap.size w w') : w'.cell? a = some v := (hb.cell (World.block_lt_of_cell? w _ h)).trans h

set_option maxRecDepth 100000 in
set_option maxHeartbeats 16000000 in
theorem encodeSpec_any (V : Va) (v : Value) (w : World) (hv : VAt w V v) (hE : Env w) (hw : gTop ≤ w.heap.size) :
    Calls Tryd.prog 3 #[v] w (LawOk w) := by
  obtain ⟨k, n, s, A, m1, c, A', m2, c', rfl⟩ := hv.form
  have HE := hide hE; have HV := hide hv
  clear hE hv
  go_enter Tryd.func3, Tryd.ntmps3
  go_wp2_with fail
  have HB0 := hide ((Below.refl w.heap.size w).alloc (Nat.le_refl _) (.cells #[.int .i64 k, .int .i64 n, .string s, .slice A m1 c, .slice A' m2 c'] 25))
  refine (sane_any _ ((unhide HE).to hw (unhide HB0)) (Nat.le_trans hw (unhide HB0).size)).mono ?_
  rintro e w1 ⟨rfl, hb1⟩
  have hX1 := (hb1.block w.heap.size (by simp)).trans (heap_alloc_new w _)
  have HB1 := hide (thenB (unhide HB0) hb1)
  have hz1 : w.heap.size < w1.heap.size := by have := hb1.size; simp at this; omega
  have HX1 := hide hX1
  have f0 := (boxAt hX1 0).1; have f1 := (boxAt hX1 1).1; have f2 := (boxAt hX1 2).1; have f3 := (boxAt hX1 3).1; have f4 := (boxAt hX1 4).1
  simp at f0 f1 f2 f3 f4
  clear hb1 hX1 HB0
  go_wp2_with fail
  have HBa := hide ((unhide HB1).alloc (unhide HB1).size (.cells #[.int .i64 k, .int .i64 n, .string s, .slice A m1 c, .slice A' m2 c'] 25))
  refine (few_list (some ⟨w1.heap.size, 0, none⟩) 1 [V] _ (elsAt_one (heap_alloc_new _ _) ((unhide HV).later (unhide HBa))) (by simp)).mono ?_
  rintro e w2 ⟨rfl, hb2⟩
  have HB2 := hide (advB (unhide HB1) hb2)
  have hX2 := (hb2.block w.heap.size (by simp; omega)).trans ((heap_alloc_old _ _ (by omega)).trans (unhide HX1))
  have hz2 : w.heap.size < w2.heap.size := by have := hb2.size; simp at this; omega
  have HX2 := hide hX2
  clear f0 f1 f2 f3 f4
  have f0 := (boxAt hX2 0).1; have f1 := (boxAt hX2 1).1; have f2 := (boxAt hX2 2).1; have f3 := (boxAt hX2 3).1; have f4 := (boxAt hX2 4).1
  simp at f0 f1 f2 f3 f4
  clear hb2 hX2 HBa
  cases hfew : fewAll [V] with
  | false =>
    clear hfew
    go_wp2_with fail
    go_ret
    exact ⟨rfl, unhide HB2⟩
  | true =>
    simp [fewAll] at hfew
    have hf := few_enc' (unhide HV) hfew
    have hf2 := few_enc (unhide HV) hfew
    have HF := hide hf; have HF2 := hide (show V.enc.length ≤ 100000000 by omega)
    clear hfew hf hf2
    go_wp2_with fail
    refine (encode_b ((unhide HV).later (unhide HB2)) (unhide HF).1 (unhide HF).2 ((unhide HE).to hw (unhide HB2)) (Nat.le_trans hw (unhide HB2).size)).mono ?_
    rintro e w3 ⟨b3, rfl, hq3, hb3⟩
    have HB3 := hide (thenB (unhide HB2) hb3)
    have hX3 := (hb3.block w.heap.size (by omega)).trans (unhide HX2)
    have HX3 := hide hX3; have HQ3 := hide hq3
    have hz3 : w.heap.size < w3.heap.size := by have := hb3.size; omega
    clear f0 f1 f2 f3 f4
    have f0 := (boxAt hX3 0).1; have f1 := (boxAt hX3 1).1; have f2 := (boxAt hX3 2).1; have f3 := (boxAt hX3 3).1; have f4 := (boxAt hX3 4).1
    simp at f0 f1 f2 f3 f4
    clear hb3 hX3 hq3
    go_wp2_with fail
    refine (rencode_any V (unhide HF).1 (unhide HF2) _ w3 ((unhide HV).later (unhide HB3))).mono ?_
    rintro e w4 ⟨b4, rfl, hq4, hb4⟩
    have HB4 := hide (thenB (unhide HB3) hb4)
    have hX4 := (hb4.block w.heap.size (by omega)).trans (unhide HX3)
    have hz4 : w.heap.size < w4.heap.size := by have := hb4.size; omega
    have q := boxAt hX4
    have hS := And.intro (q 0).1 (And.intro (q 1).1 (And.intro (q 2).1 (And.intro (q 3).1 (q 4).1)))
    simp at hS
    have HSS := hide hS
    have HQa := hide (fun (W : World) (hW : Below w4.heap.size w4 W) => (((unhide HQ3).later hb4).later hW).conv)
    have HQb := hide (fun (W : World) (hW : Below w4.heap.size w4 W) => (hq4.later hW).conv)
    have HC1 := hide (fun (W : World) (hW : Below w4.heap.size w4 W) => check_any V (unhide HF).1 _ W (((unhide HV).later (unhide HB4)).later hW))
    have HC2 := hide (fun (W : World) (hW : Below w4.heap.size w4 W) => rcheck_any V (unhide HF).1 _ W (((unhide HV).later (unhide HB4)).later hW))
    clear hb4 hX4 hq4 q hS f0 f1 f2 f3 f4 HX3 HX2 HX1 HB1 HB2 HB3 HV HQ3 HF HF2 HE
    generalize chkE V = ck at HC1 HC2 ⊢
    generalize (⟨(encF V).toArray⟩ : ByteArray) = sb at HQa HQb
    obtain ⟨q0, q1, q2, q3, q4⟩ := unhide HSS
    clear HSS
    have hT0 : ∀ x : ClsE (fun W => Below w4.heap.size w4 W), x.w.cell? ⟨w.heap.size, 0, none⟩ = some (.int .i64 k) := fun x => keep1E q0 x.h
    have hT1 : ∀ x : ClsE (fun W => Below w4.heap.size w4 W), x.w.cell? ⟨w.heap.size, 1, none⟩ = some (.int .i64 n) := fun x => keep1E q1 x.h
    have hT2 : ∀ x : ClsE (fun W => Below w4.heap.size w4 W), x.w.cell? ⟨w.heap.size, 2, none⟩ = some (.string s) := fun x => keep1E q2 x.h
    have hT3 : ∀ x : ClsE (fun W => Below w4.heap.size w4 W), x.w.cell? ⟨w.heap.size, 3, none⟩ = some (.slice A m1 c) := fun x => keep1E q3 x.h
    have hT4 : ∀ x : ClsE (fun W => Below w4.heap.size w4 W), x.w.cell? ⟨w.heap.size, 4, none⟩ = some (.slice A' m2 c') := fun x => keep1E q4 x.h
    have hV1 := fun (x : ClsE (fun W => Below w4.heap.size w4 W)) => unhide HQa x.w x.h
    have hV2 := fun (x : ClsE (fun W => Below w4.heap.size w4 W)) => unhide HQb x.w x.h
    clear q0 q1 q2 q3 q4 HQa HQb
    have hTn : Nonempty (ClsE (fun W => Below w4.heap.size w4 W)) := ⟨⟨_, belowDrewN 1 (Below.refl _ _)⟩⟩
    go_wp2_with fail
    refine wp_region_quiet_CE (C := fun W => ∃ x : ClsE (fun W => Below w4.heap.size w4 W), W = x.w) (by kernel_rfl) (by kernel_rfl) ⟨⟨_, belowDrewN 1 (Below.refl _ _)⟩, rfl⟩ ?_
    repeat (go_big_quiet_step (fail))
    go_big_quiet_step ((go_at_call 14; exact ((unhide HC1) _ (ClsE.h _)).mono fun e w'' ⟨he, hb⟩ => ⟨he, ⟨w'', thenB (ClsE.h _) hb⟩, rfl⟩))
    repeat (go_big_quiet_step (fail))
    go_big_quiet_step ((go_at_call 15; exact ((unhide HC2) _ (ClsE.h _)).mono fun e w'' ⟨he, hb⟩ => ⟨he, ⟨w'', thenB (ClsE.h _) hb⟩, rfl⟩))
    repeat (go_big_quiet_step (fail))
    refine wpQuiet_nil ?_
    rintro _ ⟨x, rfl⟩
    have HBW := hide (thenB (unhide HB4) x.h)
    go_wp2_with fail
    go_ret
    exact ⟨by first | rfl | simp, unhide HBW⟩
end Go.Proofs.YtpjfpcbodjmbnaaDoor
