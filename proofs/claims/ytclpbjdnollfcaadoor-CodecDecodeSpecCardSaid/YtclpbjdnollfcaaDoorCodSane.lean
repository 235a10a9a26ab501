/- Contracts over the codec's program, each for all worlds: the examples of the chapter. -/
import Derived.Test.YtclpbjdnollfcaaDoorCodSaneMath
import Derived.Lib.SlBytesConst
namespace Go.Proofs.YtclpbjdnollfcaaDoor
set_option linter.unusedSimpArgs false
set_option linter.unusedVariables false
open Go.RowKit

theorem bytes_lit (w : World) (l : List UInt8) (C : Array Value) (hC : C.toList = Lib.byteCells l) (hl : l.length ≤ 1000) {fz : Nat × Nat} : BAt (w.alloc (.cells C 5 fz)) (.slice (some ⟨w.heap.size, 0, none⟩) l.length l.length) l := by
  refine ⟨some ⟨w.heap.size, 0, none⟩, l.length, rfl, .inr ⟨w.heap.size, 0, rfl, by simp⟩, Nat.le_refl _, ?_, fun i b hi => ⟨w.heap.size, 0, rfl, ?_⟩⟩
  · omega
  · rw [Nat.zero_add, cell_of_row _ _ i _ _ _ (heap_alloc_new _ _), ← Array.getElem?_toList, hC]
    exact byteCells_at hi
abbrev sixObj : Obj := .cells #[.string ⟨#[105, 45, 48, 101]⟩, .string ⟨#[105, 48, 51, 101]⟩, .string ⟨#[48, 49, 58, 97]⟩, .string ⟨#[100, 49, 58, 98, 105, 49, 101, 49, 58, 97, 105, 50, 101, 101]⟩, .string ⟨#[105, 51, 101, 32]⟩, .string ⟨#[]⟩] 9
theorem six_ok (k : Nat) (h : k < 6) : ∃ s : ByteArray, (#[.string ⟨#[105, 45, 48, 101]⟩, .string ⟨#[105, 48, 51, 101]⟩, .string ⟨#[48, 49, 58, 97]⟩, .string ⟨#[100, 49, 58, 98, 105, 49, 101, 49, 58, 97, 105, 50, 101, 101]⟩, .string ⟨#[105, 51, 101, 32]⟩, .string ⟨#[]⟩] : Array Value)[k]? = some (.string s) ∧ decF s.data.toList = none ∧ s.size ≤ 100 := by
  have : k = 0 ∨ k = 1 ∨ k = 2 ∨ k = 3 ∨ k = 4 ∨ k = 5 := by omega
  rcases this with rfl | rfl | rfl | rfl | rfl | rfl
  · exact ⟨_, rfl, dec1, by decide⟩
  · exact ⟨_, rfl, dec2, by decide⟩
  · exact ⟨_, rfl, dec3, by decide⟩
  · exact ⟨_, rfl, dec4, by decide⟩
  · exact ⟨_, rfl, dec5, by decide⟩
  · exact ⟨_, rfl, dec6, by decide⟩
theorem vaL_at {W : World} {N : Nat} (h : W.heap[N]? = some (.cells #[.int .i64 1, .int .i64 (-3), .string ⟨#[]⟩, .slice none 0 0, .slice none 0 0, .int .i64 2, .int .i64 0, .string bAB, .slice none 0 0, .slice none 0 0] 25 (0, 0))) :
    VAt W vaL (vaV 3 0 ⟨#[]⟩ (some ⟨N, 0, none⟩) 2 2 none 0 0) := by
  have c := fun i => (boxAt h i).1
  refine .mk 3 0 ⟨#[]⟩ [.mk 1 (-3) ⟨#[]⟩ [] [], .mk 2 0 bAB [] []] [] (some ⟨N, 0, none⟩) 2 none 0 ⟨by decide, by decide⟩ ⟨by decide, by decide⟩ (by decide) (by decide) (by decide) (fun h => by cases h) (fun _ => rfl) N 0
    (fun i => if i = 0 then vaV 1 (-3) ⟨#[]⟩ none 0 0 none 0 0 else vaV 2 0 bAB none 0 0 none 0 0) (fun i hi => ⟨rfl, ?_⟩) (fun i x hx => ?_) (fun i s hs => by simp at hs)
  · have hi' : i = 0 ∨ i = 1 := by simp at hi; omega
    rcases hi' with rfl | rfl
    · exact ⟨_, _, _, _, _, rfl, c 0, c 1, c 2, c 3, c 4⟩
    · exact ⟨_, _, _, _, _, rfl, c 5, c 6, c 7, c 8, c 9⟩
  · match i, hx with
    | 0, hx => simp at hx; subst hx; exact VAt.flat ⟨by decide, by decide⟩ ⟨by decide, by decide⟩ (by decide)
    | 1, hx => simp at hx; subst hx; exact VAt.flat ⟨by decide, by decide⟩ ⟨by decide, by decide⟩ (by decide)
    | i + 2, hx => simp at hx

set_option maxRecDepth 100000 in
set_option maxHeartbeats 8000000 in
theorem sane_any (w : World) (hE : Env w) (hw : gTop ≤ w.heap.size) :
    Calls Tryd.prog 10 #[] w fun e w' => e = .returned (.bool true) ∧ Below w.heap.size w w' := by
  have HE := hide hE; clear hE
  have kc := fun (W : World) (C : Array Value) (n c : Nat) => Lib.run_convert_bytes_const (P := Tryd.prog) W 28 5 C n c Tryd.underlying28 Tryd.underlying5
  go_enter Tryd.func10, Tryd.ntmps10
  go_wp2_with fail
  refine (mkInt_any (-3) w).mono ?_; rintro e w1 ⟨rfl, hb1⟩
  go_wp2_with fail
  refine (mkText_any ⟨#[97, 98]⟩ w1).mono ?_; rintro e w2 ⟨rfl, hb2⟩
  go_wp2_with fail
  refine (mkList_any (some ⟨w2.heap.size, 0, none⟩) 2 2 _).mono ?_; rintro e w3 ⟨rfl, hb3⟩
  have hbox3 := (hb3.block w2.heap.size (by simp)).trans (heap_alloc_new _ _)
  have HV := hide (vaL_at hbox3)
  have HB3 := hide (advB (thenB hb1 hb2) hb3)
  clear hb1 hb2 hb3 hbox3
  go_wp2_with fail
  refine (encode_b (unhide HV) (by decide +kernel) (by rw [encL_vaL]; decide) ((unhide HE).to hw (unhide HB3)) (Nat.le_trans hw (unhide HB3).size)).mono ?_; rintro e w4 ⟨b4, he, hB4, hb4⟩
  rw [chkL] at he
  subst he
  have hc4 : encF vaL = [108, 105, 45, 51, 101, 50, 58, 97, 98, 101] := by unfold encF; rw [if_pos chkL, encL_vaL]
  rw [hc4] at hB4
  have HB4 := hide (thenB (unhide HB3) hb4)
  have HC4 := hide hB4
  clear hb4 hB4 hc4 HV HB3
  go_wp2_with fail
  refine (decode_b (l := [100, 49, 58, 97, 105, 49, 101, 101]) ?_ (by decide) ((unhide HE).to hw ((unhide HB4).alloc (unhide HB4).size _)) (Nat.le_trans hw ((unhide HB4).alloc (unhide HB4).size _).size)).mono ?_
  · exact bytes_lit w4 [100, 49, 58, 97, 105, 49, 101, 101] _ rfl (by decide)
  rintro e w5 ⟨he, hb5⟩
  rw [decD] at he
  obtain ⟨v5, rfl, hv5⟩ := he
  obtain ⟨a1, a2, a3, a4, a5, a6, a7, a8, a9, rfl⟩ := VIn.form hv5
  have HB5 := hide (advB (unhide HB4) hb5)
  have HC5 := hide ((unhide HC4).later (advB (Below.refl _ _) hb5))
  have HV5 := hide hv5.at
  clear hv5 hb5 HC4 HB4
  go_wp2_with fail
  refine (get_any vaD _ bA _ ((unhide HV5).later ((Below.refl _ _).alloc (Nat.le_refl _) _))).mono ?_
  rintro e w6 ⟨v6, he, hv6, hb6⟩
  rw [getA] at he hv6
  obtain ⟨k6, n6, s6, l6, ks6, A6, c6, A6', c6', hV6, rfl, _⟩ := hv6.open
  have hV6' : one1 = .mk k6 n6 s6 l6 ks6 := hV6
  unfold one1 at hV6'
  injection hV6' with q1 q2 q3 q4 q5
  subst q1 q2 q3 q4 q5 he
  have HX6 := hide hv6
  have hbox := (hb6.block w5.heap.size (by simp)).trans (heap_alloc_new _ _)
  have HX5 := hide hbox
  have HB6 := hide (advB (unhide HB5) hb6)
  have HC6 := hide ((unhide HC5).later (advB (Below.refl _ _) hb6))
  have HV6 := hide ((unhide HV5).later (advB (Below.refl _ _) hb6))
  have hz6 : w5.heap.size < w6.heap.size := by have := hb6.size; simp at this; omega
  have f0 := (boxAt hbox 0).1; have f1 := (boxAt hbox 1).1; have f2 := (boxAt hbox 2).1; have f3 := (boxAt hbox 3).1; have f4 := (boxAt hbox 4).1
  simp at f0 f1 f2 f3 f4
  clear hv6 hb6 hbox HB5 HC5 HV5 hV6
  go_wp2_with fail
  refine (get_any vaD _ bB _ ((unhide HV6).later ((Below.refl _ _).alloc (Nat.le_refl _) _))).mono ?_
  rintro e w7 ⟨v7, he, hv7, hb7⟩
  rw [getB] at he hv7
  obtain ⟨k7, n7, s7, l7, ks7, A7, c7, A7', c7', hV7, rfl, _⟩ := hv7.open
  subst he
  have hbox5 := (hb7.block w5.heap.size (by simp; omega)).trans ((heap_alloc_old _ _ hz6).trans (unhide HX5))
  have hbox6 := (hb7.block w6.heap.size (by simp)).trans (heap_alloc_new _ _)
  have HB7 := hide (advB (unhide HB6) hb7)
  have HC7 := hide ((unhide HC6).later (advB (Below.refl _ _) hb7))
  have HV7 := hide ((unhide HV6).later (advB (Below.refl _ _) hb7))
  have HX7 := hide ((unhide HX6).later (advB (Below.refl _ _) hb7))
  have hz7 : w6.heap.size < w7.heap.size := by have := hb7.size; simp at this; omega
  clear f0 f1 f2 f3 f4
  have f0 := (boxAt hbox5 0).1; have f1 := (boxAt hbox5 1).1; have f2 := (boxAt hbox5 2).1; have f3 := (boxAt hbox5 3).1; have f4 := (boxAt hbox5 4).1
  have g0 := (boxAt hbox6 0).1; have g1 := (boxAt hbox6 1).1; have g2 := (boxAt hbox6 2).1; have g3 := (boxAt hbox6 3).1; have g4 := (boxAt hbox6 4).1
  simp at f0 f1 f2 f3 f4 g0 g1 g2 g3 g4
  have hz57 : w5.heap.size < w7.heap.size := by omega
  have hcv := fun (o : Obj) => ((unhide HC7).later (W := w7.alloc o) ((Below.refl _ _).alloc (Nat.le_refl _) _)).conv
  have HX5' := hide hbox5; have HX6' := hide hbox6
  clear hv7 hb7 hbox5 hbox6 HB6 HC6 HV6 HX6 hV7
  go_wp2_with fail
  refine (same_any vaD vaD _ _ _ ((unhide HV7).later ((Below.refl _ _).alloc (Nat.le_refl _) _)) ((unhide HV7).later ((Below.refl _ _).alloc (Nat.le_refl _) _))).mono ?_
  rintro e w8 ⟨he, hb8⟩
  rw [sameDD] at he
  subst he
  have hbox5 := (hb8.block w5.heap.size (by simp; omega)).trans ((heap_alloc_old _ _ hz57).trans (unhide HX5'))
  have hbox6 := (hb8.block w6.heap.size (by simp; omega)).trans ((heap_alloc_old _ _ hz7).trans (unhide HX6'))
  have HB8 := hide (advB (unhide HB7) hb8)
  have HV8 := hide ((unhide HV7).later (advB (Below.refl _ _) hb8))
  have HX8 := hide ((unhide HX7).later (advB (Below.refl _ _) hb8))
  clear f0 f1 f2 f3 f4 g0 g1 g2 g3 g4 hcv
  have f0 := (boxAt hbox5 0).1; have f1 := (boxAt hbox5 1).1; have f2 := (boxAt hbox5 2).1; have f3 := (boxAt hbox5 3).1; have f4 := (boxAt hbox5 4).1
  have g0 := (boxAt hbox6 0).1; have g1 := (boxAt hbox6 1).1; have g2 := (boxAt hbox6 2).1; have g3 := (boxAt hbox6 3).1; have g4 := (boxAt hbox6 4).1
  simp at f0 f1 f2 f3 f4 g0 g1 g2 g3 g4
  clear hb8 hbox5 hbox6 HB7 HC7 HV7 HX7
  go_wp2_with fail
  refine (same_any vaD one1 _ _ _ (unhide HV8) (unhide HX8)).mono ?_
  rintro e w9 ⟨he, hb9⟩
  rw [sameDO] at he
  subst he
  have HB9 := hide (thenB (unhide HB8) hb9)
  clear hb9 f0 f1 f2 f3 f4 g0 g1 g2 g3 g4 HB8 HV8 HX8
  have kb := fun (W : World) (s : ByteArray) => run_bytes_of_string (P := Tryd.prog) W 9 28 5 s Tryd.underlying9 Tryd.underlying28 Tryd.underlying5
  go_wp2_with fail
  go_loopw [78] (fun i wr => ∃ k : Nat, k ≤ 6 ∧ i = .int .i64 (k : Int) ∧ Below (w9.alloc sixObj).heap.size (w9.alloc sixObj) wr) (fun i _ => 6 - (intOf i).toNat)
  case atStart => exact ⟨0, by omega, rfl, Below.refl _ _⟩
  case round =>
    obtain ⟨k, hk, rfl, hbr⟩ := hrel
    by_cases hlt : k < 6
    · obtain ⟨s, hs, hdec, hsz⟩ := six_ok k hlt
      have kc0 := (boxAt ((hbr.block w9.heap.size (by simp)).trans (heap_alloc_new _ _)) k).1
      rw [hs] at kc0
      have HBR := hide hbr; have HD := hide hdec; have HSZ := hide hsz
      clear hbr hs hdec
      have hk0 : (0 : Int) ≤ (k : Int) := Int.natCast_nonneg _
      have hk6 : (k : Int) < 6 := by omega
      go_wp2_with fail
      have hbd := advB (unhide HB9) (unhide HBR)
      have hbm := BAt.made wr s (grownCap wr s.size 0 5) (grownCap_ge _ _ _ _) (grownCap_le_maxLen _ _ _ _ (by have := unhide HSZ; unfold maxLen; omega)) ((bytesRow s (grownCap wr s.size 0 5)).size, (bytesRow s (grownCap wr s.size 0 5)).size + 1)
      have hsl : s.data.toList.length ≤ 1000000000 := by have := unhide HSZ; have e : s.data.toList.length = s.size := by simp
                                                         omega
      refine (decode_b (w := (wr.alloc _).drew) hbm hsl ((unhide HE).to hw (belowDrewN 1 (hbd.alloc hbd.size _))) (Nat.le_trans hw (hbd.alloc hbd.size _).size)).mono ?_
      rintro e w10 ⟨he, hb10⟩
      rw [unhide HD] at he
      simp only at he
      subst he
      have HB10 := hide (advB (Below.refl _ _) (Below.trans (belowDrewN 1 (Below.refl _ _)) hb10) : Below wr.heap.size wr w10)
      clear hb10 hbm hbd
      go_wp2_with fail
      go_roundw
      case rel => exact ⟨k + 1, by omega, by go_num, ((unhide HBR).trans ((unhide HB10).mono (unhide HBR).size)).alloc (by have := (unhide HBR).size; have := (unhide HB10).size; omega) _⟩
      case measure => simp [intOf]; omega
    · obtain rfl : k = 6 := by omega
      have HBR := hide hbr
      clear hbr
      go_wp2_with fail
      refine (check_any zeroVa (by decide) _ _ (VAt.zero _)).mono ?_
      rintro e w10 ⟨he, hb10⟩
      rw [chkZ] at he
      subst he
      have HB10 := hide hb10; clear hb10
      go_wp2_with fail
      go_ret
      exact ⟨rfl, thenB (advB (unhide HB9) (unhide HBR)) (unhide HB10)⟩
end Go.Proofs.YtclpbjdnollfcaaDoor
