/- Contracts over the program of facts: what is asked of a fact's content. -/
import Derived.Test.YtdmaopfaeigelaaGreatDoorFacI
import Derived.Test.YtdmaopfaeigelaaGreatDoorFacH
namespace Go.Proofs.YtdmaopfaeigelaaGreatDoor
set_option linter.unusedSimpArgs false
set_option linter.unusedVariables false
open Go.RowKit

/-- no club twice -/
def distinct : List Int → Bool
  | [] => true
  | x :: l => !l.contains x && distinct l
def okLot (s c : Int) (l : List Int) : Bool := inR s 0 63 && inR c 0 15 && okClubs l && distinct l
def okMove (p t : Int) : Bool := inR p 0 8191 && (inR t 0 191 || decide (t = -1))
def fHold (k : Int) (f : Fc) : Bool := match k with
  | 1 => okEnt f.e
  | 2 => okGame f.xg && inR f.venue 0 4095
  | 3 => okSheet f.sh
  | 4 => okRuling f.r
  | 5 => inR f.ac 1 1048576 && inR f.ai 1 2
  | 6 => okMove f.mp f.mt
  | 7 => okLot f.ls f.lc f.order
  | 8 => true
  | _ => false
/-- the kinds are ints -/
def FWf (f : Fc) : Prop := (Lit.int .i64 f.kind).wf = true ∧ (Lit.int .i64 f.r.kind).wf = true
set_option maxRecDepth 100000 in
set_option maxHeartbeats 1000000 in
theorem fh1_any (f : Fc) (a : Ad) (w : World) (hf : FAt w f a) (hw : FWf f) : Calls Tryz.prog 109 #[.agg (fC f a).toArray] w fun x w' => x = .returned (.bool (fHold 1 f)) ∧ Below w.heap.size w w' := by
  show Calls Tryz.prog 109 #[.agg (fC f a).toArray] w fun x w' => x = .returned (.bool (okEnt f.e)) ∧ Below w.heap.size w w'
  obtain ⟨z, hz⟩ : ∃ z, z = (okEnt f.e) := ⟨_, rfl⟩
  rw [← hz]
  have HZ := hide hz
  clear hz
  obtain ⟨cs, hcs⟩ : ∃ cs, cs = fC f a := ⟨_, rfl⟩
  rw [← hcs]
  have HCS := hide hcs
  have HF := hide hf
  have HW := hide hw
  clear hcs hf hw
  go_enter Tryz.func109, Tryz.ntmps109
  go_upto_region 1 with fail
  generalize hX1 : w.alloc _ = W1
  have hB1 : Below w.heap.size w W1 := hX1 ▸ (Below.refl _ _).alloc (Nat.le_refl _) _
  have HV := hide (boxedV w W1 cs 45 (by rw [← hX1]; rfl))
  rw [unhide HCS] at HV
  have HB := hide hB1
  clear hX1 hB1 HCS
  refine wp_region_lit ?_
  refine wpList_plain rfl fun Kt hKt => ?_
  go_simp
  refine hKt _ _ ?_
  clear hKt Kt
  try simp only [List.getElem_toArray, List.getElem_cons_zero, List.getElem_cons_succ, Act.put, List.setIfInBounds_toArray, List.set_cons_zero, List.set_cons_succ]
  refine wpList_vload rfl 24 (.tmp 3) rfl w.heap.size 3 rfl _ Tryz.underlying24 rfl (eC f.e a.cl a.ncl) infoEn (unhide HV).fe ?_
  try simp only [List.getElem_toArray, List.getElem_cons_zero, List.getElem_cons_succ, Act.put, List.setIfInBounds_toArray, List.set_cons_zero, List.set_cons_succ]
  have hcc := entrants_any f.e W1 a.cl f.e.clubs.length a.ncl rfl ((unhide HF).cl.keep (unhide HB))
  rw [← unhide HZ] at hcc
  have HC := hide hcc
  clear hcc
  go_wp2_with fail
  refine (unhide HC).mono ?_; rintro x W2 ⟨rfl, hG⟩
  have HB2 := hide (thenB (unhide HB) hG)
  clear hG
  go_wp2_with fail
  go_ret
  exact ⟨rfl, unhide HB2⟩
set_option maxRecDepth 100000 in
set_option maxHeartbeats 1000000 in
theorem fh2_any (f : Fc) (a : Ad) (w : World) (hf : FAt w f a) (hw : FWf f) : Calls Tryz.prog 112 #[.agg (fC f a).toArray] w fun x w' => x = .returned (.bool (fHold 2 f)) ∧ Below w.heap.size w w' := by
  show Calls Tryz.prog 112 #[.agg (fC f a).toArray] w fun x w' => x = .returned (.bool (okGame f.xg && inR f.venue 0 4095)) ∧ Below w.heap.size w w'
  obtain ⟨b0, hb0⟩ : ∃ z, z = okGame f.xg := ⟨_, rfl⟩
  obtain ⟨b1, hb1⟩ : ∃ z, z = inR f.venue 0 4095 := ⟨_, rfl⟩
  rw [← hb0, ← hb1]
  have HC0 := hide fun W => game_any f.xg W
  rw [← hb0] at HC0
  have HC1 := hide fun W => within_any f.venue 0 4095 W
  rw [← hb1] at HC1
  clear hb0 hb1
  obtain ⟨cs, hcs⟩ : ∃ cs, cs = fC f a := ⟨_, rfl⟩
  rw [← hcs]
  have HCS := hide hcs
  have HF := hide hf
  have HW := hide hw
  clear hcs hf hw
  go_enter Tryz.func112, Tryz.ntmps112
  go_upto_region 1 with fail
  generalize hX1 : w.alloc _ = W1
  have hB1 : Below w.heap.size w W1 := hX1 ▸ (Below.refl _ _).alloc (Nat.le_refl _) _
  have HV := hide (boxedV w W1 cs 45 (by rw [← hX1]; rfl))
  rw [unhide HCS] at HV
  have HB := hide hB1
  clear hX1 hB1 HCS
  have h7 : W1.cell? ⟨w.heap.size, 7, none⟩ = some (.int .i64 f.xg.s) := (unhide HV).cell rfl
  have h8 : W1.cell? ⟨w.heap.size, 8, none⟩ = some (.int .i64 f.xg.c) := (unhide HV).cell rfl
  have h9 : W1.cell? ⟨w.heap.size, 9, none⟩ = some (.int .i64 f.xg.h) := (unhide HV).cell rfl
  have h10 : W1.cell? ⟨w.heap.size, 10, none⟩ = some (.int .i64 f.xg.a) := (unhide HV).cell rfl
  go_wp2_with fail
  refine ((unhide HC0) W1).mono ?_; rintro x W2 ⟨rfl, hG⟩
  have HV2 := hide ((unhide HV).keep hG); have HB2 := hide (thenB (unhide HB) hG)
  clear hG h7 h8 h9 h10
  cases b0
  case false =>
    go_wp2_with fail
    go_ret
    exact ⟨by simp, unhide HB2⟩
  have h11 : W2.cell? ⟨w.heap.size, 11, none⟩ = some (.int .i64 f.venue) := (unhide HV2).cell rfl
  go_wp2_with fail
  refine ((unhide HC1) W2).mono ?_; rintro x W3 ⟨rfl, rfl⟩
  go_wp2_with fail
  go_ret
  exact ⟨by simp, unhide HB2⟩
set_option maxRecDepth 100000 in
set_option maxHeartbeats 1000000 in
theorem fh3_any (f : Fc) (a : Ad) (w : World) (hf : FAt w f a) (hw : FWf f) : Calls Tryz.prog 115 #[.agg (fC f a).toArray] w fun x w' => x = .returned (.bool (fHold 3 f)) ∧ Below w.heap.size w w' := by
  show Calls Tryz.prog 115 #[.agg (fC f a).toArray] w fun x w' => x = .returned (.bool (okSheet f.sh)) ∧ Below w.heap.size w w'
  obtain ⟨z, hz⟩ : ∃ z, z = (okSheet f.sh) := ⟨_, rfl⟩
  rw [← hz]
  have HZ := hide hz
  clear hz
  obtain ⟨cs, hcs⟩ : ∃ cs, cs = fC f a := ⟨_, rfl⟩
  rw [← hcs]
  have HCS := hide hcs
  have HF := hide hf
  have HW := hide hw
  clear hcs hf hw
  go_enter Tryz.func115, Tryz.ntmps115
  go_upto_region 1 with fail
  generalize hX1 : w.alloc _ = W1
  have hB1 : Below w.heap.size w W1 := hX1 ▸ (Below.refl _ _).alloc (Nat.le_refl _) _
  have HV := hide (boxedV w W1 cs 45 (by rw [← hX1]; rfl))
  rw [unhide HCS] at HV
  have HB := hide hB1
  clear hX1 hB1 HCS
  refine wp_region_lit ?_
  refine wpList_plain rfl fun Kt hKt => ?_
  go_simp
  refine hKt _ _ ?_
  clear hKt Kt
  try simp only [List.getElem_toArray, List.getElem_cons_zero, List.getElem_cons_succ, Act.put, List.setIfInBounds_toArray, List.set_cons_zero, List.set_cons_succ]
  refine wpList_vload rfl 31 (.tmp 3) rfl w.heap.size 12 rfl _ Tryz.underlying31 rfl (sC f.sh a) infoSh (unhide HV).fs ?_
  try simp only [List.getElem_toArray, List.getElem_cons_zero, List.getElem_cons_succ, Act.put, List.setIfInBounds_toArray, List.set_cons_zero, List.set_cons_succ]
  have hcc := sheet_any f.sh a W1 ((unhide HF).hs.keep (unhide HB)) ((unhide HF).as_.keep (unhide HB)) ((unhide HF).hc.keep (unhide HB)) ((unhide HF).ac.keep (unhide HB))
  rw [← unhide HZ] at hcc
  have HC := hide hcc
  clear hcc
  go_wp2_with fail
  refine (unhide HC).mono ?_; rintro x W2 ⟨rfl, hG⟩
  have HB2 := hide (thenB (unhide HB) hG)
  clear hG
  go_wp2_with fail
  go_ret
  exact ⟨rfl, unhide HB2⟩
set_option maxRecDepth 100000 in
set_option maxHeartbeats 1000000 in
theorem fh4_any (f : Fc) (a : Ad) (w : World) (hf : FAt w f a) (hw : FWf f) : Calls Tryz.prog 118 #[.agg (fC f a).toArray] w fun x w' => x = .returned (.bool (fHold 4 f)) ∧ Below w.heap.size w w' := by
  show Calls Tryz.prog 118 #[.agg (fC f a).toArray] w fun x w' => x = .returned (.bool (okRuling f.r)) ∧ Below w.heap.size w w'
  obtain ⟨z, hz⟩ : ∃ z, z = (okRuling f.r) := ⟨_, rfl⟩
  rw [← hz]
  have HZ := hide hz
  clear hz
  obtain ⟨cs, hcs⟩ : ∃ cs, cs = fC f a := ⟨_, rfl⟩
  rw [← hcs]
  have HCS := hide hcs
  have HF := hide hf
  have HW := hide hw
  clear hcs hf hw
  go_enter Tryz.func118, Tryz.ntmps118
  go_upto_region 1 with fail
  generalize hX1 : w.alloc _ = W1
  have hB1 : Below w.heap.size w W1 := hX1 ▸ (Below.refl _ _).alloc (Nat.le_refl _) _
  have HV := hide (boxedV w W1 cs 45 (by rw [← hX1]; rfl))
  rw [unhide HCS] at HV
  have HB := hide hB1
  clear hX1 hB1 HCS
  refine wp_region_lit ?_
  refine wpList_plain rfl fun Kt hKt => ?_
  go_simp
  refine hKt _ _ ?_
  clear hKt Kt
  try simp only [List.getElem_toArray, List.getElem_cons_zero, List.getElem_cons_succ, Act.put, List.setIfInBounds_toArray, List.set_cons_zero, List.set_cons_succ]
  refine wpList_vload rfl 35 (.tmp 3) rfl w.heap.size 25 rfl _ Tryz.underlying35 rfl (rC f.r) infoRu (unhide HV).fr ?_
  try simp only [List.getElem_toArray, List.getElem_cons_zero, List.getElem_cons_succ, Act.put, List.setIfInBounds_toArray, List.set_cons_zero, List.set_cons_succ]
  have hcc := ruling_any f.r (unhide HW).2 W1
  rw [← unhide HZ] at hcc
  have HC := hide hcc
  clear hcc
  go_wp2_with fail
  refine (unhide HC).mono ?_; rintro x W2 ⟨rfl, hG⟩
  have HB2 := hide (thenB (unhide HB) hG)
  clear hG
  go_wp2_with fail
  go_ret
  exact ⟨rfl, unhide HB2⟩
set_option maxRecDepth 100000 in
set_option maxHeartbeats 1000000 in
theorem fh5_any (f : Fc) (a : Ad) (w : World) (hf : FAt w f a) (hw : FWf f) : Calls Tryz.prog 121 #[.agg (fC f a).toArray] w fun x w' => x = .returned (.bool (fHold 5 f)) ∧ Below w.heap.size w w' := by
  show Calls Tryz.prog 121 #[.agg (fC f a).toArray] w fun x w' => x = .returned (.bool (inR f.ac 1 1048576 && inR f.ai 1 2)) ∧ Below w.heap.size w w'
  obtain ⟨z, hz⟩ : ∃ z, z = (inR f.ac 1 1048576 && inR f.ai 1 2) := ⟨_, rfl⟩
  rw [← hz]
  have HZ := hide hz
  clear hz
  obtain ⟨cs, hcs⟩ : ∃ cs, cs = fC f a := ⟨_, rfl⟩
  rw [← hcs]
  have HCS := hide hcs
  have HF := hide hf
  have HW := hide hw
  clear hcs hf hw
  go_enter Tryz.func121, Tryz.ntmps121
  go_upto_region 1 with fail
  generalize hX1 : w.alloc _ = W1
  have hB1 : Below w.heap.size w W1 := hX1 ▸ (Below.refl _ _).alloc (Nat.le_refl _) _
  have HV := hide (boxedV w W1 cs 45 (by rw [← hX1]; rfl))
  rw [unhide HCS] at HV
  have HB := hide hB1
  clear hX1 hB1 HCS
  refine wp_region_lit ?_
  refine wpList_plain rfl fun Kt hKt => ?_
  go_simp
  refine hKt _ _ ?_
  clear hKt Kt
  try simp only [List.getElem_toArray, List.getElem_cons_zero, List.getElem_cons_succ, Act.put, List.setIfInBounds_toArray, List.set_cons_zero, List.set_cons_succ]
  refine wpList_vload rfl 37 (.tmp 3) rfl w.heap.size 42 rfl _ Tryz.underlying37 rfl (pC f) infoAp (unhide HV).fp ?_
  try simp only [List.getElem_toArray, List.getElem_cons_zero, List.getElem_cons_succ, Act.put, List.setIfInBounds_toArray, List.set_cons_zero, List.set_cons_succ]
  have hcc := appeal_any f.ac f.ai f.susp W1
  rw [← unhide HZ] at hcc
  have HC := hide hcc
  clear hcc
  go_wp2_with fail
  refine (unhide HC).mono ?_; rintro x W2 ⟨rfl, hG⟩
  have HB2 := hide (thenB (unhide HB) hG)
  clear hG
  go_wp2_with fail
  go_ret
  exact ⟨rfl, unhide HB2⟩
set_option maxRecDepth 100000 in
set_option maxHeartbeats 1000000 in
theorem fh6_any (f : Fc) (a : Ad) (w : World) (hf : FAt w f a) (hw : FWf f) : Calls Tryz.prog 124 #[.agg (fC f a).toArray] w fun x w' => x = .returned (.bool (fHold 6 f)) ∧ Below w.heap.size w w' := by
  show Calls Tryz.prog 124 #[.agg (fC f a).toArray] w fun x w' => x = .returned (.bool (okMove f.mp f.mt)) ∧ Below w.heap.size w w'
  obtain ⟨z, hz⟩ : ∃ z, z = (okMove f.mp f.mt) := ⟨_, rfl⟩
  rw [← hz]
  have HZ := hide hz
  clear hz
  obtain ⟨cs, hcs⟩ : ∃ cs, cs = fC f a := ⟨_, rfl⟩
  rw [← hcs]
  have HCS := hide hcs
  have HF := hide hf
  have HW := hide hw
  clear hcs hf hw
  go_enter Tryz.func124, Tryz.ntmps124
  go_upto_region 1 with fail
  generalize hX1 : w.alloc _ = W1
  have hB1 : Below w.heap.size w W1 := hX1 ▸ (Below.refl _ _).alloc (Nat.le_refl _) _
  have HV := hide (boxedV w W1 cs 45 (by rw [← hX1]; rfl))
  rw [unhide HCS] at HV
  have HB := hide hB1
  clear hX1 hB1 HCS
  refine wp_region_lit ?_
  refine wpList_plain rfl fun Kt hKt => ?_
  go_simp
  refine hKt _ _ ?_
  clear hKt Kt
  try simp only [List.getElem_toArray, List.getElem_cons_zero, List.getElem_cons_succ, Act.put, List.setIfInBounds_toArray, List.set_cons_zero, List.set_cons_succ]
  refine wpList_vload rfl 39 (.tmp 3) rfl w.heap.size 45 rfl _ Tryz.underlying39 rfl (mC f) infoMv (unhide HV).fm ?_
  try simp only [List.getElem_toArray, List.getElem_cons_zero, List.getElem_cons_succ, Act.put, List.setIfInBounds_toArray, List.set_cons_zero, List.set_cons_succ]
  have hcc := move_any f.mp f.mt W1
  rw [show (inR f.mp 0 8191 && (inR f.mt 0 191 || decide (f.mt = -1))) = okMove f.mp f.mt from rfl, ← unhide HZ] at hcc
  have HC := hide hcc
  clear hcc
  go_wp2_with fail
  refine (unhide HC).mono ?_; rintro x W2 ⟨rfl, hG⟩
  have HB2 := hide (thenB (unhide HB) hG)
  clear hG
  go_wp2_with fail
  go_ret
  exact ⟨rfl, unhide HB2⟩
set_option maxRecDepth 100000 in
theorem fh8_any (f : Fc) (a : Ad) (w : World) (hf : FAt w f a) (hw : FWf f) : Calls Tryz.prog 130 #[.agg (fC f a).toArray] w fun x w' => x = .returned (.bool (fHold 8 f)) ∧ Below w.heap.size w w' := by
  obtain ⟨cs, hcs⟩ : ∃ cs, cs = fC f a := ⟨_, rfl⟩
  rw [← hcs]
  have HCS := hide hcs
  have HF := hide hf
  have HW := hide hw
  clear hcs hf hw
  go_enter Tryz.func130, Tryz.ntmps130
  go_upto_region 1 with fail
  generalize hX1 : w.alloc _ = W1
  have hB1 : Below w.heap.size w W1 := hX1 ▸ (Below.refl _ _).alloc (Nat.le_refl _) _
  have HV := hide (boxedV w W1 cs 45 (by rw [← hX1]; rfl))
  rw [unhide HCS] at HV
  have HB := hide hB1
  clear hX1 hB1 HCS
  go_wp2_with fail
  go_ret
  exact ⟨rfl, unhide HB⟩
end Go.Proofs.YtdmaopfaeigelaaGreatDoor
