/- Contracts over the program of facts: Encode. -/
import Derived.Test.YtdmaopfaeigelaaGreatDoorFacYR
import Derived.Test.YtdmaopfaeigelaaGreatDoorCodGlue
namespace Go.Proofs.YtdmaopfaeigelaaGreatDoor
set_option linter.unusedSimpArgs false
set_option linter.unusedVariables false
open Go.RowKit

def FEnc (w : World) (l : List UInt8) (z : Int) (e : Ending) (w' : World) : Prop := ∃ bv, e = .returned (.tuple #[bv, .int .i64 z]) ∧ BAt w' bv l ∧ Below w.heap.size w w'
set_option maxRecDepth 100000 in
theorem encode_bad (f : Fc) (a : Ad) (w : World) (hf : FAt w f a) (hw : FWf f) (hok : okFact f = false) :
    Calls Tryz.prog 17 #[.agg (fC f a).toArray] w (FEnc w [] 70) := by
  have hc := fun W (h : Below w.heap.size w W) => check_any' f a W (hf.keep h) hw
  rw [hok] at hc
  have HC := hide hc
  have hv32 := hf.void
  have HV32 := hide hv32
  obtain ⟨cs, hcs⟩ : ∃ cs, cs = fC f a := ⟨_, rfl⟩
  rw [← hcs]
  have HCS := hide hcs
  clear hc hv32 hcs hf hw hok
  go_enter Tryz.func17, Tryz.ntmps17
  go_upto_region 1 with fail
  generalize hX1 : w.alloc _ = W1
  have hB1 : Below w.heap.size w W1 := hX1 ▸ (Below.refl _ _).alloc (Nat.le_refl _) _
  have HV := hide (boxedV w W1 cs 45 (by rw [← hX1]; rfl))
  rw [unhide HCS] at HV
  have HB := hide hB1
  clear hX1 hB1 HCS
  refine wp_region_lit ?_
  refine wpList_vload rfl 45 (.tmp 1) rfl w.heap.size 0 rfl _ Tryz.underlying45 rfl (fC f a) (by rw [fC_length _ _ (unhide HV32)]; exact infoFc) (unhide HV).range ?_
  try simp only [List.getElem_toArray, List.getElem_cons_zero, List.getElem_cons_succ, Act.put, List.setIfInBounds_toArray, List.set_cons_zero, List.set_cons_succ]
  go_wp2_with fail
  refine ((unhide HC) W1 (unhide HB)).mono ?_; rintro x W2 ⟨rfl, hG⟩
  have HB2 := hide (thenB (unhide HB) hG)
  clear hG
  go_wp2_with fail
  go_ret2
  exact ⟨_, rfl, BAt.nil _, unhide HB2⟩
set_option maxRecDepth 100000 in
theorem encode_ok (f : Fc) (a : Ad) (w : World) (hf : FAt w f a) (hw : FWf f) (hok : okFact f = true) (V : Va) (hchk : chkE V = 0)
    (hval : ∀ W, Below w.heap.size w W → Calls Tryz.prog 40 #[.agg (fC f a).toArray] W fun e w' => ∃ v, e = .returned v ∧ VAt w' V v ∧ Below W.heap.size W w')
    (hn : V.nest ≤ 1000) (hlim : V.enc.length ≤ 1000000000) (hE : Env w) (hg : gTop ≤ w.heap.size) :
    Calls Tryz.prog 17 #[.agg (fC f a).toArray] w (FEnc w V.enc 0) := by
  have hc := fun W (h : Below w.heap.size w W) => check_any' f a W (hf.keep h) hw
  rw [hok] at hc
  have HC := hide hc; have HVAL := hide hval
  have HEN := hide fun W v (h : Below w.heap.size w W) (hv : VAt W V v) => encode_b hv hn hlim (hE.to hg h) (Nat.le_trans hg h.size)
  have hv32 := hf.void
  have HV32 := hide hv32
  have HCK := hide hchk
  obtain ⟨cs, hcs⟩ : ∃ cs, cs = fC f a := ⟨_, rfl⟩
  rw [← hcs]
  have HCS := hide hcs
  clear hc hv32 hcs hf hw hok hval hn hlim hE hg hchk
  go_enter Tryz.func17, Tryz.ntmps17
  go_upto_region 1 with fail
  generalize hX1 : w.alloc _ = W1
  have hB1 : Below w.heap.size w W1 := hX1 ▸ (Below.refl _ _).alloc (Nat.le_refl _) _
  have HV := hide (boxedV w W1 cs 45 (by rw [← hX1]; rfl))
  rw [unhide HCS] at HV
  have HB := hide hB1
  clear hX1 hB1 HCS
  refine wp_region_lit ?_
  refine wpList_vload rfl 45 (.tmp 1) rfl w.heap.size 0 rfl _ Tryz.underlying45 rfl (fC f a) (by rw [fC_length _ _ (unhide HV32)]; exact infoFc) (unhide HV).range ?_
  try simp only [List.getElem_toArray, List.getElem_cons_zero, List.getElem_cons_succ, Act.put, List.setIfInBounds_toArray, List.set_cons_zero, List.set_cons_succ]
  go_wp2_with fail
  refine ((unhide HC) W1 (unhide HB)).mono ?_; rintro x W2 ⟨rfl, hG⟩
  have HB2 := hide (thenB (unhide HB) hG); have HV2 := hide ((unhide HV).keep hG)
  clear hG
  go_upto_region 4 with fail
  refine wp_region_lit ?_
  refine wpList_vload rfl 45 (.tmp 1) rfl w.heap.size 0 rfl _ Tryz.underlying45 rfl (fC f a) (by rw [fC_length _ _ (unhide HV32)]; exact infoFc) (unhide HV2).range ?_
  try simp only [List.getElem_toArray, List.getElem_cons_zero, List.getElem_cons_succ, Act.put, List.setIfInBounds_toArray, List.set_cons_zero, List.set_cons_succ]
  go_wp2_with fail
  refine ((unhide HVAL) W2 (unhide HB2)).mono ?_; rintro x W3 ⟨v, rfl, hv, hG⟩
  have HB3 := hide (thenB (unhide HB2) hG)
  have hen := (unhide HEN) W3 v (unhide HB3) hv
  unfold EncodedB at hen
  unfold encF at hen
  rw [unhide HCK] at hen
  have HN := hide hen
  clear hG hv hen
  go_wp2_with fail
  refine (unhide HN).mono ?_; rintro x W4 ⟨bv, rfl, hb, hG⟩
  have HB4 := hide (thenB (unhide HB3) hG); have HBV := hide hb
  clear hG hb
  go_wp2_with fail
  go_ret2
  exact ⟨_, rfl, unhide HBV, unhide HB4⟩
end Go.Proofs.YtdmaopfaeigelaaGreatDoor
