/- Contracts over the program of facts: the reference's SameSheet, sheet. Contracts over the program of facts: the reference's Same. -/
import Derived.Test.YtdmaopfaeigelaaGreatDoorFacCABC
import Derived.Test.YtdmaopfaeigelaaGreatDoorFacCSR
namespace Go.Proofs.YtdmaopfaeigelaaGreatDoor
set_option linter.unusedSimpArgs false
set_option linter.unusedVariables false
set_option maxRecDepth 100000
open Go.RowKit

set_option maxRecDepth 100000 in
set_option maxHeartbeats 4000000 in
theorem rsameSh_any (x y : Sh) (a c : Ad) (w : World) (f1 : Sl w a.hs x.hs a.nhs ∧ Sl w c.hs y.hs c.nhs) (f2 : Sl w a.as_ x.as_ a.nas ∧ Sl w c.as_ y.as_ c.nas) (f3 : Sc w a.hc x.hc a.nhc ∧ Sc w c.hc y.hc c.nhc) (f4 : Sc w a.ac x.ac a.nac ∧ Sc w c.ac y.ac c.nac) :
    Calls Tryz.prog 49 #[.agg (sC x a).toArray, .agg (sC y c).toArray] w fun r w' => r = .returned (.bool (shEq x y)) ∧ Below w.heap.size w w' := by
  obtain ⟨R, hR⟩ : ∃ R, R = shEq x y := ⟨_, rfl⟩
  obtain ⟨b0, hb0⟩ : ∃ b, (gmEq x.g y.g) = b := ⟨_, rfl⟩
  obtain ⟨b1, hb1⟩ : ∃ b, (x.rf == y.rf) = b := ⟨_, rfl⟩
  obtain ⟨b2, hb2⟩ : ∃ b, (x.hg == y.hg) = b := ⟨_, rfl⟩
  obtain ⟨b3, hb3⟩ : ∃ b, (x.ag == y.ag) = b := ⟨_, rfl⟩
  obtain ⟨b4, hb4⟩ : ∃ b, (x.hp == y.hp) = b := ⟨_, rfl⟩
  obtain ⟨b5, hb5⟩ : ∃ b, (x.ap == y.ap) = b := ⟨_, rfl⟩
  obtain ⟨b6, hb6⟩ : ∃ b, (decide (x.hs = y.hs)) = b := ⟨_, rfl⟩
  obtain ⟨b7, hb7⟩ : ∃ b, (decide (x.as_ = y.as_)) = b := ⟨_, rfl⟩
  obtain ⟨b8, hb8⟩ : ∃ b, (cdsEq x.hc y.hc) = b := ⟨_, rfl⟩
  obtain ⟨b9, hb9⟩ : ∃ b, (cdsEq x.ac y.ac) = b := ⟨_, rfl⟩
  have HR : Hid (R = (b0 && b1 && b2 && b3 && b4 && b5 && b6 && b7 && b8 && b9)) := by
    have : R = (b0 && b1 && b2 && b3 && b4 && b5 && b6 && b7 && b8 && b9) := by
      rw [hR, ← hb0, ← hb1, ← hb2, ← hb3, ← hb4, ← hb5, ← hb6, ← hb7, ← hb8, ← hb9]; rfl
    exact this
  rw [← hR]
  clear hR
  have F_hs := hide f1; have F_as_ := hide f2; have F_hc := hide f3; have F_ac := hide f4
  clear f1 f2 f3 f4
  obtain ⟨cx, hcx⟩ : ∃ zz, zz = sC x a := ⟨_, rfl⟩
  obtain ⟨cy, hcy⟩ : ∃ zz, zz = sC y c := ⟨_, rfl⟩
  rw [← hcx, ← hcy]
  have HCX := hide hcx; have HCY := hide hcy
  clear hcx hcy
  go_enter Tryz.func49, Tryz.ntmps49
  go_upto_region 1 with fail
  generalize hX1 : w.alloc _ = W1
  have hB1 : Below w.heap.size w W1 := hX1 ▸ (Below.refl _ _).alloc (Nat.le_refl _) _
  have hv1 := boxedV w W1 cx 31 (by rw [← hX1]; rfl)
  have hz1 : W1.heap.size = w.heap.size + 1 := by rw [← hX1]; show (w.heap.push _).size = _; rw [Array.size_push]
  generalize hX2 : W1.alloc _ = W2
  have hB2 : Below W1.heap.size W1 W2 := hX2 ▸ (Below.refl _ _).alloc (Nat.le_refl _) _
  have HY := hide (boxedV W1 W2 cy 31 (by rw [← hX2]; rfl))
  rw [hz1] at HY
  have HX := hide (hv1.keep hB2)
  have HB := hide (thenB hB1 hB2)
  have hsz2 : W2.heap.size = w.heap.size + 2 := by rw [← hX2]; show (W1.heap.push _).size = _; rw [Array.size_push, hz1]
  have HSZ := hide hsz2
  clear hX1 hB1 hv1 hz1 hX2 hB2 hsz2
  rw [unhide HCX] at HX
  rw [unhide HCY] at HY
  clear HCX HCY
  refine wp_region_lit ?_
  refine wpList_plain rfl fun Kt hKt => ?_
  go_simp
  refine hKt _ _ ?_
  clear hKt Kt
  try simp only [List.getElem_toArray, List.getElem_cons_zero, List.getElem_cons_succ, Act.put, List.setIfInBounds_toArray, List.set_cons_zero, List.set_cons_succ]
  refine wpList_vgload (by kernel_rfl) 26 (.tmp 5) rfl w.heap.size 0 rfl _ Tryz.underlying26 rfl (gC x.g) infoGm (unhide HX).sg ?_
  try simp only [List.getElem_toArray, List.getElem_cons_zero, List.getElem_cons_succ, Act.put, List.setIfInBounds_toArray, List.set_cons_zero, List.set_cons_succ]
  refine wpList_plain rfl fun Kt hKt => ?_
  go_simp
  refine hKt _ _ ?_
  clear hKt Kt
  try simp only [List.getElem_toArray, List.getElem_cons_zero, List.getElem_cons_succ, Act.put, List.setIfInBounds_toArray, List.set_cons_zero, List.set_cons_succ]
  refine wpList_vgload (by kernel_rfl) 26 (.tmp 7) rfl (w.heap.size + 1) 0 rfl _ Tryz.underlying26 rfl (gC y.g) infoGm (unhide HY).sg ?_
  try simp only [List.getElem_toArray, List.getElem_cons_zero, List.getElem_cons_succ, Act.put, List.setIfInBounds_toArray, List.set_cons_zero, List.set_cons_succ]
  refine wpList_cmpW (by kernel_rfl) 26 26 (.tmp 6) (.tmp 8) rfl _ _ b0 rfl rfl (gm_guard _ _ x.g y.g _) (by rw [← hb0]; exact gm_cmp x.g y.g _) ?_
  try simp only [List.getElem_toArray, List.getElem_cons_zero, List.getElem_cons_succ, Act.put, List.setIfInBounds_toArray, List.set_cons_zero, List.set_cons_succ]
  clear hb0
  cases b0
  case false =>
    go_wp2_with fail
    go_ret
    exact ⟨by rw [unhide HR]; rfl, unhide HB⟩
  refine wpList_plain rfl fun Kt hKt => ?_
  go_simp
  refine hKt _ _ ?_
  clear hKt Kt
  try simp only [List.getElem_toArray, List.getElem_cons_zero, List.getElem_cons_succ, Act.put, List.setIfInBounds_toArray, List.set_cons_zero, List.set_cons_succ]
  have hc := (unhide HX).cell (j := 4) (v := .int .i64 x.rf) rfl
  have hd := (unhide HY).cell (j := 4) (v := .int .i64 y.rf) rfl
  cases b1
  case false =>
    go_wp2_with fail
    go_ret
    exact ⟨by rw [unhide HR]; rfl, unhide HB⟩
  refine wpList_wanted (by kernel_rfl) fun Kt hKt => ?_
  go_simp
  refine hKt _ _ ?_
  clear hKt Kt
  try simp only [List.getElem_toArray, List.getElem_cons_zero, List.getElem_cons_succ, Act.put, List.setIfInBounds_toArray, List.set_cons_zero, List.set_cons_succ]
  refine wpList_wanted (by kernel_rfl) fun Kt hKt => ?_
  go_simp
  refine hKt _ _ ?_
  clear hKt Kt
  try simp only [List.getElem_toArray, List.getElem_cons_zero, List.getElem_cons_succ, Act.put, List.setIfInBounds_toArray, List.set_cons_zero, List.set_cons_succ]
  refine wpList_wanted (by kernel_rfl) fun Kt hKt => ?_
  go_simp
  refine hKt _ _ ?_
  clear hKt Kt
  try simp only [List.getElem_toArray, List.getElem_cons_zero, List.getElem_cons_succ, Act.put, List.setIfInBounds_toArray, List.set_cons_zero, List.set_cons_succ]
  refine wpList_wanted (by kernel_rfl) fun Kt hKt => ?_
  go_simp
  refine hKt _ _ ?_
  clear hKt Kt
  try simp only [List.getElem_toArray, List.getElem_cons_zero, List.getElem_cons_succ, Act.put, List.setIfInBounds_toArray, List.set_cons_zero, List.set_cons_succ]
  refine wpList_wanted (by kernel_rfl) fun Kt hKt => ?_
  go_simp
  refine hKt _ _ ?_
  clear hKt Kt
  try simp only [List.getElem_toArray, List.getElem_cons_zero, List.getElem_cons_succ, Act.put, List.setIfInBounds_toArray, List.set_cons_zero, List.set_cons_succ]
  clear hc hd
  refine wpList_plain rfl fun Kt hKt => ?_
  go_simp
  refine hKt _ _ ?_
  clear hKt Kt
  try simp only [List.getElem_toArray, List.getElem_cons_zero, List.getElem_cons_succ, Act.put, List.setIfInBounds_toArray, List.set_cons_zero, List.set_cons_succ]
  refine wpList_plain rfl fun Kt hKt => ?_
  go_simp
  refine hKt _ _ ?_
  clear hKt Kt
  try simp only [List.getElem_toArray, List.getElem_cons_zero, List.getElem_cons_succ, Act.put, List.setIfInBounds_toArray, List.set_cons_zero, List.set_cons_succ]
  have hc := (unhide HX).cell (j := 5) (v := .int .i64 x.hg) rfl
  have hd := (unhide HY).cell (j := 5) (v := .int .i64 y.hg) rfl
  cases b2
  case false =>
    go_wp2_with fail
    go_ret
    exact ⟨by rw [unhide HR]; rfl, unhide HB⟩
  refine wpList_wanted (by kernel_rfl) fun Kt hKt => ?_
  go_simp
  refine hKt _ _ ?_
  clear hKt Kt
  try simp only [List.getElem_toArray, List.getElem_cons_zero, List.getElem_cons_succ, Act.put, List.setIfInBounds_toArray, List.set_cons_zero, List.set_cons_succ]
  refine wpList_wanted (by kernel_rfl) fun Kt hKt => ?_
  go_simp
  refine hKt _ _ ?_
  clear hKt Kt
  try simp only [List.getElem_toArray, List.getElem_cons_zero, List.getElem_cons_succ, Act.put, List.setIfInBounds_toArray, List.set_cons_zero, List.set_cons_succ]
  refine wpList_wanted (by kernel_rfl) fun Kt hKt => ?_
  go_simp
  refine hKt _ _ ?_
  clear hKt Kt
  try simp only [List.getElem_toArray, List.getElem_cons_zero, List.getElem_cons_succ, Act.put, List.setIfInBounds_toArray, List.set_cons_zero, List.set_cons_succ]
  refine wpList_wanted (by kernel_rfl) fun Kt hKt => ?_
  go_simp
  refine hKt _ _ ?_
  clear hKt Kt
  try simp only [List.getElem_toArray, List.getElem_cons_zero, List.getElem_cons_succ, Act.put, List.setIfInBounds_toArray, List.set_cons_zero, List.set_cons_succ]
  refine wpList_wanted (by kernel_rfl) fun Kt hKt => ?_
  go_simp
  refine hKt _ _ ?_
  clear hKt Kt
  try simp only [List.getElem_toArray, List.getElem_cons_zero, List.getElem_cons_succ, Act.put, List.setIfInBounds_toArray, List.set_cons_zero, List.set_cons_succ]
  clear hc hd
  refine wpList_plain rfl fun Kt hKt => ?_
  go_simp
  refine hKt _ _ ?_
  clear hKt Kt
  try simp only [List.getElem_toArray, List.getElem_cons_zero, List.getElem_cons_succ, Act.put, List.setIfInBounds_toArray, List.set_cons_zero, List.set_cons_succ]
  refine wpList_plain rfl fun Kt hKt => ?_
  go_simp
  refine hKt _ _ ?_
  clear hKt Kt
  try simp only [List.getElem_toArray, List.getElem_cons_zero, List.getElem_cons_succ, Act.put, List.setIfInBounds_toArray, List.set_cons_zero, List.set_cons_succ]
  have hc := (unhide HX).cell (j := 6) (v := .int .i64 x.ag) rfl
  have hd := (unhide HY).cell (j := 6) (v := .int .i64 y.ag) rfl
  cases b3
  case false =>
    go_wp2_with fail
    go_ret
    exact ⟨by rw [unhide HR]; rfl, unhide HB⟩
  refine wpList_wanted (by kernel_rfl) fun Kt hKt => ?_
  go_simp
  refine hKt _ _ ?_
  clear hKt Kt
  try simp only [List.getElem_toArray, List.getElem_cons_zero, List.getElem_cons_succ, Act.put, List.setIfInBounds_toArray, List.set_cons_zero, List.set_cons_succ]
  refine wpList_wanted (by kernel_rfl) fun Kt hKt => ?_
  go_simp
  refine hKt _ _ ?_
  clear hKt Kt
  try simp only [List.getElem_toArray, List.getElem_cons_zero, List.getElem_cons_succ, Act.put, List.setIfInBounds_toArray, List.set_cons_zero, List.set_cons_succ]
  refine wpList_wanted (by kernel_rfl) fun Kt hKt => ?_
  go_simp
  refine hKt _ _ ?_
  clear hKt Kt
  try simp only [List.getElem_toArray, List.getElem_cons_zero, List.getElem_cons_succ, Act.put, List.setIfInBounds_toArray, List.set_cons_zero, List.set_cons_succ]
  refine wpList_wanted (by kernel_rfl) fun Kt hKt => ?_
  go_simp
  refine hKt _ _ ?_
  clear hKt Kt
  try simp only [List.getElem_toArray, List.getElem_cons_zero, List.getElem_cons_succ, Act.put, List.setIfInBounds_toArray, List.set_cons_zero, List.set_cons_succ]
  refine wpList_wanted (by kernel_rfl) fun Kt hKt => ?_
  go_simp
  refine hKt _ _ ?_
  clear hKt Kt
  try simp only [List.getElem_toArray, List.getElem_cons_zero, List.getElem_cons_succ, Act.put, List.setIfInBounds_toArray, List.set_cons_zero, List.set_cons_succ]
  clear hc hd
  refine wpList_plain rfl fun Kt hKt => ?_
  go_simp
  refine hKt _ _ ?_
  clear hKt Kt
  try simp only [List.getElem_toArray, List.getElem_cons_zero, List.getElem_cons_succ, Act.put, List.setIfInBounds_toArray, List.set_cons_zero, List.set_cons_succ]
  refine wpList_plain rfl fun Kt hKt => ?_
  go_simp
  refine hKt _ _ ?_
  clear hKt Kt
  try simp only [List.getElem_toArray, List.getElem_cons_zero, List.getElem_cons_succ, Act.put, List.setIfInBounds_toArray, List.set_cons_zero, List.set_cons_succ]
  have hc := (unhide HX).cell (j := 7) (v := .int .i64 x.hp) rfl
  have hd := (unhide HY).cell (j := 7) (v := .int .i64 y.hp) rfl
  cases b4
  case false =>
    go_wp2_with fail
    go_ret
    exact ⟨by rw [unhide HR]; rfl, unhide HB⟩
  refine wpList_wanted (by kernel_rfl) fun Kt hKt => ?_
  go_simp
  refine hKt _ _ ?_
  clear hKt Kt
  try simp only [List.getElem_toArray, List.getElem_cons_zero, List.getElem_cons_succ, Act.put, List.setIfInBounds_toArray, List.set_cons_zero, List.set_cons_succ]
  refine wpList_wanted (by kernel_rfl) fun Kt hKt => ?_
  go_simp
  refine hKt _ _ ?_
  clear hKt Kt
  try simp only [List.getElem_toArray, List.getElem_cons_zero, List.getElem_cons_succ, Act.put, List.setIfInBounds_toArray, List.set_cons_zero, List.set_cons_succ]
  refine wpList_wanted (by kernel_rfl) fun Kt hKt => ?_
  go_simp
  refine hKt _ _ ?_
  clear hKt Kt
  try simp only [List.getElem_toArray, List.getElem_cons_zero, List.getElem_cons_succ, Act.put, List.setIfInBounds_toArray, List.set_cons_zero, List.set_cons_succ]
  refine wpList_wanted (by kernel_rfl) fun Kt hKt => ?_
  go_simp
  refine hKt _ _ ?_
  clear hKt Kt
  try simp only [List.getElem_toArray, List.getElem_cons_zero, List.getElem_cons_succ, Act.put, List.setIfInBounds_toArray, List.set_cons_zero, List.set_cons_succ]
  refine wpList_wanted (by kernel_rfl) fun Kt hKt => ?_
  go_simp
  refine hKt _ _ ?_
  clear hKt Kt
  try simp only [List.getElem_toArray, List.getElem_cons_zero, List.getElem_cons_succ, Act.put, List.setIfInBounds_toArray, List.set_cons_zero, List.set_cons_succ]
  clear hc hd
  refine wpList_plain rfl fun Kt hKt => ?_
  go_simp
  refine hKt _ _ ?_
  clear hKt Kt
  try simp only [List.getElem_toArray, List.getElem_cons_zero, List.getElem_cons_succ, Act.put, List.setIfInBounds_toArray, List.set_cons_zero, List.set_cons_succ]
  refine wpList_plain rfl fun Kt hKt => ?_
  go_simp
  refine hKt _ _ ?_
  clear hKt Kt
  try simp only [List.getElem_toArray, List.getElem_cons_zero, List.getElem_cons_succ, Act.put, List.setIfInBounds_toArray, List.set_cons_zero, List.set_cons_succ]
  have hc := (unhide HX).cell (j := 8) (v := .int .i64 x.ap) rfl
  have hd := (unhide HY).cell (j := 8) (v := .int .i64 y.ap) rfl
  cases b5
  case false =>
    go_wp2_with fail
    go_ret
    exact ⟨by rw [unhide HR]; rfl, unhide HB⟩
  refine wpList_wanted (by kernel_rfl) fun Kt hKt => ?_
  go_simp
  refine hKt _ _ ?_
  clear hKt Kt
  try simp only [List.getElem_toArray, List.getElem_cons_zero, List.getElem_cons_succ, Act.put, List.setIfInBounds_toArray, List.set_cons_zero, List.set_cons_succ]
  refine wpList_wanted (by kernel_rfl) fun Kt hKt => ?_
  go_simp
  refine hKt _ _ ?_
  clear hKt Kt
  try simp only [List.getElem_toArray, List.getElem_cons_zero, List.getElem_cons_succ, Act.put, List.setIfInBounds_toArray, List.set_cons_zero, List.set_cons_succ]
  refine wpList_wanted (by kernel_rfl) fun Kt hKt => ?_
  go_simp
  refine hKt _ _ ?_
  clear hKt Kt
  try simp only [List.getElem_toArray, List.getElem_cons_zero, List.getElem_cons_succ, Act.put, List.setIfInBounds_toArray, List.set_cons_zero, List.set_cons_succ]
  refine wpList_wanted (by kernel_rfl) fun Kt hKt => ?_
  go_simp
  refine hKt _ _ ?_
  clear hKt Kt
  try simp only [List.getElem_toArray, List.getElem_cons_zero, List.getElem_cons_succ, Act.put, List.setIfInBounds_toArray, List.set_cons_zero, List.set_cons_succ]
  refine wpList_wanted (by kernel_rfl) fun Kt hKt => ?_
  go_simp
  refine hKt _ _ ?_
  clear hKt Kt
  try simp only [List.getElem_toArray, List.getElem_cons_zero, List.getElem_cons_succ, Act.put, List.setIfInBounds_toArray, List.set_cons_zero, List.set_cons_succ]
  clear hc hd
  refine wpList_plain rfl fun Kt hKt => ?_
  go_simp
  refine hKt _ _ ?_
  clear hKt Kt
  try simp only [List.getElem_toArray, List.getElem_cons_zero, List.getElem_cons_succ, Act.put, List.setIfInBounds_toArray, List.set_cons_zero, List.set_cons_succ]
  refine wpList_plain rfl fun Kt hKt => ?_
  go_simp
  refine hKt _ _ ?_
  clear hKt Kt
  try simp only [List.getElem_toArray, List.getElem_cons_zero, List.getElem_cons_succ, Act.put, List.setIfInBounds_toArray, List.set_cons_zero, List.set_cons_succ]
  have hc := (unhide HX).cell (j := 9) (v := .slice a.hs x.hs.length a.nhs) rfl
  refine wpList_wanted (by kernel_rfl) fun Kt hKt => ?_
  go_simp
  refine hKt _ _ ?_
  clear hKt Kt
  try simp only [List.getElem_toArray, List.getElem_cons_zero, List.getElem_cons_succ, Act.put, List.setIfInBounds_toArray, List.set_cons_zero, List.set_cons_succ]
  refine wpList_wanted (by kernel_rfl) fun Kt hKt => ?_
  go_simp
  refine hKt _ _ ?_
  clear hKt Kt
  try simp only [List.getElem_toArray, List.getElem_cons_zero, List.getElem_cons_succ, Act.put, List.setIfInBounds_toArray, List.set_cons_zero, List.set_cons_succ]
  clear hc
  have hc := (unhide HY).cell (j := 9) (v := .slice c.hs y.hs.length c.nhs) rfl
  refine wpList_wanted (by kernel_rfl) fun Kt hKt => ?_
  go_simp
  refine hKt _ _ ?_
  clear hKt Kt
  try simp only [List.getElem_toArray, List.getElem_cons_zero, List.getElem_cons_succ, Act.put, List.setIfInBounds_toArray, List.set_cons_zero, List.set_cons_succ]
  refine wpList_wanted (by kernel_rfl) fun Kt hKt => ?_
  go_simp
  refine hKt _ _ ?_
  clear hKt Kt
  try simp only [List.getElem_toArray, List.getElem_cons_zero, List.getElem_cons_succ, Act.put, List.setIfInBounds_toArray, List.set_cons_zero, List.set_cons_succ]
  clear hc
  refine wpList_wanted (by kernel_rfl) fun Kt hKt => ?_
  go_simp
  refine (rsameInts_any W2 a.hs x.hs.length a.nhs x.hs rfl ((unhide F_hs).1.keep (unhide HB)) c.hs y.hs.length c.nhs y.hs rfl ((unhide F_hs).2.keep (unhide HB))).mono ?_; rintro x W3 ⟨rfl, hG⟩
  dsimp only
  rw [hb6]
  refine hKt _ _ ?_
  clear hKt Kt
  have HX := hide ((unhide HX).keep hG); have HY := hide ((unhide HY).keep hG); have HB := hide (thenB (unhide HB) hG)
  clear hG
  try simp only [List.getElem_toArray, List.getElem_cons_zero, List.getElem_cons_succ, Act.put, List.setIfInBounds_toArray, List.set_cons_zero, List.set_cons_succ]
  clear hb6
  cases b6
  case false =>
    go_wp2_with fail
    go_ret
    exact ⟨by rw [unhide HR]; rfl, unhide HB⟩
  refine wpList_plain rfl fun Kt hKt => ?_
  go_simp
  refine hKt _ _ ?_
  clear hKt Kt
  try simp only [List.getElem_toArray, List.getElem_cons_zero, List.getElem_cons_succ, Act.put, List.setIfInBounds_toArray, List.set_cons_zero, List.set_cons_succ]
  refine wpList_plain rfl fun Kt hKt => ?_
  go_simp
  refine hKt _ _ ?_
  clear hKt Kt
  try simp only [List.getElem_toArray, List.getElem_cons_zero, List.getElem_cons_succ, Act.put, List.setIfInBounds_toArray, List.set_cons_zero, List.set_cons_succ]
  have hc := (unhide HX).cell (j := 10) (v := .slice a.as_ x.as_.length a.nas) rfl
  refine wpList_wanted (by kernel_rfl) fun Kt hKt => ?_
  go_simp
  refine hKt _ _ ?_
  clear hKt Kt
  try simp only [List.getElem_toArray, List.getElem_cons_zero, List.getElem_cons_succ, Act.put, List.setIfInBounds_toArray, List.set_cons_zero, List.set_cons_succ]
  refine wpList_wanted (by kernel_rfl) fun Kt hKt => ?_
  go_simp
  refine hKt _ _ ?_
  clear hKt Kt
  try simp only [List.getElem_toArray, List.getElem_cons_zero, List.getElem_cons_succ, Act.put, List.setIfInBounds_toArray, List.set_cons_zero, List.set_cons_succ]
  clear hc
  have hc := (unhide HY).cell (j := 10) (v := .slice c.as_ y.as_.length c.nas) rfl
  refine wpList_wanted (by kernel_rfl) fun Kt hKt => ?_
  go_simp
  refine hKt _ _ ?_
  clear hKt Kt
  try simp only [List.getElem_toArray, List.getElem_cons_zero, List.getElem_cons_succ, Act.put, List.setIfInBounds_toArray, List.set_cons_zero, List.set_cons_succ]
  refine wpList_wanted (by kernel_rfl) fun Kt hKt => ?_
  go_simp
  refine hKt _ _ ?_
  clear hKt Kt
  try simp only [List.getElem_toArray, List.getElem_cons_zero, List.getElem_cons_succ, Act.put, List.setIfInBounds_toArray, List.set_cons_zero, List.set_cons_succ]
  clear hc
  refine wpList_wanted (by kernel_rfl) fun Kt hKt => ?_
  go_simp
  refine (rsameInts_any W3 a.as_ x.as_.length a.nas x.as_ rfl ((unhide F_as_).1.keep (unhide HB)) c.as_ y.as_.length c.nas y.as_ rfl ((unhide F_as_).2.keep (unhide HB))).mono ?_; rintro x W4 ⟨rfl, hG⟩
  dsimp only
  rw [hb7]
  refine hKt _ _ ?_
  clear hKt Kt
  have HX := hide ((unhide HX).keep hG); have HY := hide ((unhide HY).keep hG); have HB := hide (thenB (unhide HB) hG)
  clear hG
  try simp only [List.getElem_toArray, List.getElem_cons_zero, List.getElem_cons_succ, Act.put, List.setIfInBounds_toArray, List.set_cons_zero, List.set_cons_succ]
  clear hb7
  cases b7
  case false =>
    go_wp2_with fail
    go_ret
    exact ⟨by rw [unhide HR]; rfl, unhide HB⟩
  refine wpList_plain rfl fun Kt hKt => ?_
  go_simp
  refine hKt _ _ ?_
  clear hKt Kt
  try simp only [List.getElem_toArray, List.getElem_cons_zero, List.getElem_cons_succ, Act.put, List.setIfInBounds_toArray, List.set_cons_zero, List.set_cons_succ]
  refine wpList_plain rfl fun Kt hKt => ?_
  go_simp
  refine hKt _ _ ?_
  clear hKt Kt
  try simp only [List.getElem_toArray, List.getElem_cons_zero, List.getElem_cons_succ, Act.put, List.setIfInBounds_toArray, List.set_cons_zero, List.set_cons_succ]
  have hc := (unhide HX).cell (j := 11) (v := .slice a.hc x.hc.length a.nhc) rfl
  refine wpList_wanted (by kernel_rfl) fun Kt hKt => ?_
  go_simp
  refine hKt _ _ ?_
  clear hKt Kt
  try simp only [List.getElem_toArray, List.getElem_cons_zero, List.getElem_cons_succ, Act.put, List.setIfInBounds_toArray, List.set_cons_zero, List.set_cons_succ]
  refine wpList_wanted (by kernel_rfl) fun Kt hKt => ?_
  go_simp
  refine hKt _ _ ?_
  clear hKt Kt
  try simp only [List.getElem_toArray, List.getElem_cons_zero, List.getElem_cons_succ, Act.put, List.setIfInBounds_toArray, List.set_cons_zero, List.set_cons_succ]
  clear hc
  have hc := (unhide HY).cell (j := 11) (v := .slice c.hc y.hc.length c.nhc) rfl
  refine wpList_wanted (by kernel_rfl) fun Kt hKt => ?_
  go_simp
  refine hKt _ _ ?_
  clear hKt Kt
  try simp only [List.getElem_toArray, List.getElem_cons_zero, List.getElem_cons_succ, Act.put, List.setIfInBounds_toArray, List.set_cons_zero, List.set_cons_succ]
  refine wpList_wanted (by kernel_rfl) fun Kt hKt => ?_
  go_simp
  refine hKt _ _ ?_
  clear hKt Kt
  try simp only [List.getElem_toArray, List.getElem_cons_zero, List.getElem_cons_succ, Act.put, List.setIfInBounds_toArray, List.set_cons_zero, List.set_cons_succ]
  clear hc
  refine wpList_wanted (by kernel_rfl) fun Kt hKt => ?_
  go_simp
  refine (rsameCards_any W4 a.hc x.hc.length a.nhc x.hc rfl ((unhide F_hc).1.keep (unhide HB)) c.hc y.hc.length c.nhc y.hc rfl ((unhide F_hc).2.keep (unhide HB))).mono ?_; rintro x W5 ⟨rfl, hG⟩
  dsimp only
  rw [hb8]
  refine hKt _ _ ?_
  clear hKt Kt
  have HX := hide ((unhide HX).keep hG); have HY := hide ((unhide HY).keep hG); have HB := hide (thenB (unhide HB) hG)
  clear hG
  try simp only [List.getElem_toArray, List.getElem_cons_zero, List.getElem_cons_succ, Act.put, List.setIfInBounds_toArray, List.set_cons_zero, List.set_cons_succ]
  clear hb8
  cases b8
  case false =>
    go_wp2_with fail
    go_ret
    exact ⟨by rw [unhide HR]; rfl, unhide HB⟩
  refine wpList_plain rfl fun Kt hKt => ?_
  go_simp
  refine hKt _ _ ?_
  clear hKt Kt
  try simp only [List.getElem_toArray, List.getElem_cons_zero, List.getElem_cons_succ, Act.put, List.setIfInBounds_toArray, List.set_cons_zero, List.set_cons_succ]
  refine wpList_plain rfl fun Kt hKt => ?_
  go_simp
  refine hKt _ _ ?_
  clear hKt Kt
  try simp only [List.getElem_toArray, List.getElem_cons_zero, List.getElem_cons_succ, Act.put, List.setIfInBounds_toArray, List.set_cons_zero, List.set_cons_succ]
  have hc := (unhide HX).cell (j := 12) (v := .slice a.ac x.ac.length a.nac) rfl
  refine wpList_wanted (by kernel_rfl) fun Kt hKt => ?_
  go_simp
  refine hKt _ _ ?_
  clear hKt Kt
  try simp only [List.getElem_toArray, List.getElem_cons_zero, List.getElem_cons_succ, Act.put, List.setIfInBounds_toArray, List.set_cons_zero, List.set_cons_succ]
  refine wpList_wanted (by kernel_rfl) fun Kt hKt => ?_
  go_simp
  refine hKt _ _ ?_
  clear hKt Kt
  try simp only [List.getElem_toArray, List.getElem_cons_zero, List.getElem_cons_succ, Act.put, List.setIfInBounds_toArray, List.set_cons_zero, List.set_cons_succ]
  clear hc
  have hc := (unhide HY).cell (j := 12) (v := .slice c.ac y.ac.length c.nac) rfl
  refine wpList_wanted (by kernel_rfl) fun Kt hKt => ?_
  go_simp
  refine hKt _ _ ?_
  clear hKt Kt
  try simp only [List.getElem_toArray, List.getElem_cons_zero, List.getElem_cons_succ, Act.put, List.setIfInBounds_toArray, List.set_cons_zero, List.set_cons_succ]
  refine wpList_wanted (by kernel_rfl) fun Kt hKt => ?_
  go_simp
  refine hKt _ _ ?_
  clear hKt Kt
  try simp only [List.getElem_toArray, List.getElem_cons_zero, List.getElem_cons_succ, Act.put, List.setIfInBounds_toArray, List.set_cons_zero, List.set_cons_succ]
  clear hc
  refine wpList_wanted (by kernel_rfl) fun Kt hKt => ?_
  go_simp
  refine (rsameCards_any W5 a.ac x.ac.length a.nac x.ac rfl ((unhide F_ac).1.keep (unhide HB)) c.ac y.ac.length c.nac y.ac rfl ((unhide F_ac).2.keep (unhide HB))).mono ?_; rintro x W6 ⟨rfl, hG⟩
  dsimp only
  rw [hb9]
  refine hKt _ _ ?_
  clear hKt Kt
  have HX := hide ((unhide HX).keep hG); have HY := hide ((unhide HY).keep hG); have HB := hide (thenB (unhide HB) hG)
  clear hG
  try simp only [List.getElem_toArray, List.getElem_cons_zero, List.getElem_cons_succ, Act.put, List.setIfInBounds_toArray, List.set_cons_zero, List.set_cons_succ]
  clear hb9
  refine wpList_plain rfl fun Kt hKt => ?_
  go_simp
  refine hKt _ _ ?_
  clear hKt Kt
  try simp only [List.getElem_toArray, List.getElem_cons_zero, List.getElem_cons_succ, Act.put, List.setIfInBounds_toArray, List.set_cons_zero, List.set_cons_succ]
  go_wp2_with fail
  go_ret
  exact ⟨by rw [unhide HR]; rfl, unhide HB⟩
end Go.Proofs.YtdmaopfaeigelaaGreatDoor
namespace Go.Proofs.YtdmaopfaeigelaaGreatDoor
set_option linter.unusedSimpArgs false
set_option linter.unusedVariables false
set_option maxRecDepth 100000
open Go.RowKit

theorem neq_of {P : Program} (T : TypeId) (xs ys : Array Value) (b : Bool) (W : World) (h : (binOp .eql T (.agg xs) (.agg ys)).run P W = .ok (.bool b) W) : (binOp .neq T (.agg xs) (.agg ys)).run P W = .ok (.bool (!b)) W := by
  rw [run_eql_struct] at h
  rw [run_neq_struct]
  cases e : (Op.equalIn 10000 T (.agg xs) (.agg ys)).run P W with
  | ok c w' =>
    rw [e] at h
    simp [Result.andThen] at h
    obtain ⟨rfl, rfl⟩ := h
    rfl
  | halt c w' =>
    rw [e] at h
    simp [Result.andThen] at h
theorem wpList_cmpN {P : Program} {ops : Array Oper} {rest : List Oper} {o : Oper} {a : Act} {W : World} {Q : Exit → Act → World → Prop} (hw : Region.wanted o (yielded ops a.tmps) = true) (T T' : TypeId) (p q : Operand) (ho : o.op = .binOp .neq T p q T') (xs ys : Array Value) (b n : Bool) (hn : (!b) = n)
    (hx : a.eval p = .agg xs) (hy : a.eval q = .agg ys) (hg : P.eqGuardType P.depth T = false) (hc : (binOp .eql T (.agg xs) (.agg ys)).run P W = .ok (.bool b) W) (h : wpList P ops Q rest (a.put o.dst (.bool n)) W) : wpList P ops Q (o :: rest) a W := by
  subst hn
  refine wpList_wanted hw fun K' hK' => ?_
  unfold Oper.wp
  simp [execOp, ho, hx, hy, run_eqGuard_agg, hg, neq_of T xs ys b W hc, Result.andThen]
  exact hK' _ _ h
theorem infoEn0 : eC e0 none 0 = [.int .i64 0, .int .i64 0, .slice none 0 0, .string ByteArray.empty] := rfl
theorem eC_one (e : En) (A : Option Addr) (k : Nat) : ∀ v ∈ eC e A k, v.oneCell' = true := by
  intro v hv
  simp only [eC, List.mem_cons, List.not_mem_nil, or_false] at hv
  rcases hv with rfl | rfl | rfl | rfl <;> rfl
set_option maxHeartbeats 8000000 in
theorem rsame_any (x y : Fc) (a c : Ad) (w : World) (f1 : FAt w x a) (f2 : FAt w y c) :
    Calls Tryz.prog 23 #[.agg (fC x a).toArray, .agg (fC y c).toArray] w fun r w' => r = .returned (.bool (fcEq x y)) ∧ Below w.heap.size w w' := by
  obtain ⟨R, hR⟩ : ∃ R, R = fcEq x y := ⟨_, rfl⟩
  obtain ⟨n0, hn0⟩ : ∃ b, (x.kind != y.kind) = b := ⟨_, rfl⟩
  obtain ⟨n1, hn1⟩ : ∃ b, (x.day != y.day) = b := ⟨_, rfl⟩
  obtain ⟨n2, hn2⟩ : ∃ b, (x.known != y.known) = b := ⟨_, rfl⟩
  obtain ⟨n3, hn3⟩ : ∃ b, (!fxEq x y) = b := ⟨_, rfl⟩
  obtain ⟨n4, hn4⟩ : ∃ b, (!ruEq x.r y.r) = b := ⟨_, rfl⟩
  obtain ⟨n5, hn5⟩ : ∃ b, (!apEq x y) = b := ⟨_, rfl⟩
  obtain ⟨n6, hn6⟩ : ∃ b, (!mvEq x y) = b := ⟨_, rfl⟩
  obtain ⟨n7, hn7⟩ : ∃ b, (!decide (x.void = y.void)) = b := ⟨_, rfl⟩
  obtain ⟨u0, he0⟩ : ∃ b, (x.e.s == y.e.s) = b := ⟨_, rfl⟩
  obtain ⟨u1, he1⟩ : ∃ b, (x.e.c == y.e.c) = b := ⟨_, rfl⟩
  obtain ⟨u2, he2⟩ : ∃ b, (x.e.rules.toList == y.e.rules.toList) = b := ⟨_, rfl⟩
  obtain ⟨u3, he3⟩ : ∃ b, decide (x.e.clubs = y.e.clubs) = b := ⟨_, rfl⟩
  obtain ⟨u4, he4⟩ : ∃ b, (x.ls == y.ls) = b := ⟨_, rfl⟩
  obtain ⟨u5, he5⟩ : ∃ b, (x.lc == y.lc) = b := ⟨_, rfl⟩
  obtain ⟨u6, he6⟩ : ∃ b, decide (x.order = y.order) = b := ⟨_, rfl⟩
  obtain ⟨u7, he7⟩ : ∃ b, shEq x.sh y.sh = b := ⟨_, rfl⟩
  have HR : Hid (R = (!n0 && !n1 && !n2 && !n3 && !n4 && !n5 && !n6 && !n7 && u0 && u1 && u2 && u3 && u4 && u5 && u6 && u7)) := by
    have : R = (!n0 && !n1 && !n2 && !n3 && !n4 && !n5 && !n6 && !n7 && u0 && u1 && u2 && u3 && u4 && u5 && u6 && u7) := by
      rw [hR, ← hn0, ← hn1, ← hn2, ← hn3, ← hn4, ← hn5, ← hn6, ← hn7, ← he0, ← he1, ← he2, ← he3, ← he4, ← he5, ← he6, ← he7]
      unfold fcEq enEq ltEq
      simp only [bne, Bool.not_not]
      ac_rfl
    exact this
  rw [← hR]
  clear hR
  have FX := hide f1; have FY := hide f2
  clear f1 f2
  obtain ⟨cx, hcx⟩ : ∃ zz, zz = fC x a := ⟨_, rfl⟩
  obtain ⟨cy, hcy⟩ : ∃ zz, zz = fC y c := ⟨_, rfl⟩
  rw [← hcx, ← hcy]
  have HCX := hide hcx; have HCY := hide hcy
  clear hcx hcy
  go_enter Tryz.func23, Tryz.ntmps23
  go_upto_region 1 with fail
  generalize hX1 : w.alloc _ = W1
  have hB1 : Below w.heap.size w W1 := hX1 ▸ (Below.refl _ _).alloc (Nat.le_refl _) _
  have hv1 := boxedV w W1 cx 45 (by rw [← hX1]; rfl)
  have hz1 : W1.heap.size = w.heap.size + 1 := by rw [← hX1]; show (w.heap.push _).size = _; rw [Array.size_push]
  generalize hX2 : W1.alloc _ = W2
  have hB2 : Below W1.heap.size W1 W2 := hX2 ▸ (Below.refl _ _).alloc (Nat.le_refl _) _
  have HY := hide (boxedV W1 W2 cy 45 (by rw [← hX2]; rfl))
  rw [hz1] at HY
  have HX := hide (hv1.keep hB2)
  have HB := hide (thenB hB1 hB2)
  have hsz2 : W2.heap.size = w.heap.size + 2 := by rw [← hX2]; show (W1.heap.push _).size = _; rw [Array.size_push, hz1]
  have HSZ := hide hsz2
  clear hX1 hB1 hv1 hz1 hX2 hB2 hsz2
  rw [unhide HCX] at HX
  rw [unhide HCY] at HY
  clear HCX HCY
  have EH0 := hide he0
  have EH1 := hide he1
  have EH2 := hide he2
  have EH3 := hide he3
  have EH4 := hide he4
  have EH5 := hide he5
  have EH6 := hide he6
  have EH7 := hide he7
  clear he0 he1 he2 he3 he4 he5 he6 he7
  refine wp_region_lit ?_
  have hc := (unhide HX).cell (j := 0) (v := .int .i64 x.kind) rfl
  have hd := (unhide HY).cell (j := 0) (v := .int .i64 y.kind) rfl
  cases n0
  case true =>
    go_wp2_with fail
    go_ret
    exact ⟨by rw [unhide HR]; simp, unhide HB⟩
  refine wpList_plain rfl fun Kt hKt => ?_
  go_simp
  refine hKt _ _ ?_
  clear hKt Kt
  try simp only [List.getElem_toArray, List.getElem_cons_zero, List.getElem_cons_succ, Act.put, List.setIfInBounds_toArray, List.set_cons_zero, List.set_cons_succ]
  refine wpList_plain rfl fun Kt hKt => ?_
  go_simp
  refine hKt _ _ ?_
  clear hKt Kt
  try simp only [List.getElem_toArray, List.getElem_cons_zero, List.getElem_cons_succ, Act.put, List.setIfInBounds_toArray, List.set_cons_zero, List.set_cons_succ]
  refine wpList_plain rfl fun Kt hKt => ?_
  go_simp
  refine hKt _ _ ?_
  clear hKt Kt
  try simp only [List.getElem_toArray, List.getElem_cons_zero, List.getElem_cons_succ, Act.put, List.setIfInBounds_toArray, List.set_cons_zero, List.set_cons_succ]
  refine wpList_plain rfl fun Kt hKt => ?_
  go_simp
  refine hKt _ _ ?_
  clear hKt Kt
  try simp only [List.getElem_toArray, List.getElem_cons_zero, List.getElem_cons_succ, Act.put, List.setIfInBounds_toArray, List.set_cons_zero, List.set_cons_succ]
  refine wpList_plain rfl fun Kt hKt => ?_
  go_simp
  refine hKt _ _ ?_
  clear hKt Kt
  try simp only [List.getElem_toArray, List.getElem_cons_zero, List.getElem_cons_succ, Act.put, List.setIfInBounds_toArray, List.set_cons_zero, List.set_cons_succ]
  clear hc hd
  refine wpList_plain rfl fun Kt hKt => ?_
  go_simp
  refine hKt _ _ ?_
  clear hKt Kt
  try simp only [List.getElem_toArray, List.getElem_cons_zero, List.getElem_cons_succ, Act.put, List.setIfInBounds_toArray, List.set_cons_zero, List.set_cons_succ]
  have hc := (unhide HX).cell (j := 1) (v := .int .i64 x.day) rfl
  have hd := (unhide HY).cell (j := 1) (v := .int .i64 y.day) rfl
  cases n1
  case true =>
    go_wp2_with fail
    go_ret
    exact ⟨by rw [unhide HR]; simp, unhide HB⟩
  refine wpList_wanted (by kernel_rfl) fun Kt hKt => ?_
  go_simp
  refine hKt _ _ ?_
  clear hKt Kt
  try simp only [List.getElem_toArray, List.getElem_cons_zero, List.getElem_cons_succ, Act.put, List.setIfInBounds_toArray, List.set_cons_zero, List.set_cons_succ]
  refine wpList_wanted (by kernel_rfl) fun Kt hKt => ?_
  go_simp
  refine hKt _ _ ?_
  clear hKt Kt
  try simp only [List.getElem_toArray, List.getElem_cons_zero, List.getElem_cons_succ, Act.put, List.setIfInBounds_toArray, List.set_cons_zero, List.set_cons_succ]
  refine wpList_wanted (by kernel_rfl) fun Kt hKt => ?_
  go_simp
  refine hKt _ _ ?_
  clear hKt Kt
  try simp only [List.getElem_toArray, List.getElem_cons_zero, List.getElem_cons_succ, Act.put, List.setIfInBounds_toArray, List.set_cons_zero, List.set_cons_succ]
  refine wpList_wanted (by kernel_rfl) fun Kt hKt => ?_
  go_simp
  refine hKt _ _ ?_
  clear hKt Kt
  try simp only [List.getElem_toArray, List.getElem_cons_zero, List.getElem_cons_succ, Act.put, List.setIfInBounds_toArray, List.set_cons_zero, List.set_cons_succ]
  refine wpList_wanted (by kernel_rfl) fun Kt hKt => ?_
  go_simp
  refine hKt _ _ ?_
  clear hKt Kt
  try simp only [List.getElem_toArray, List.getElem_cons_zero, List.getElem_cons_succ, Act.put, List.setIfInBounds_toArray, List.set_cons_zero, List.set_cons_succ]
  clear hc hd
  refine wpList_plain rfl fun Kt hKt => ?_
  go_simp
  refine hKt _ _ ?_
  clear hKt Kt
  try simp only [List.getElem_toArray, List.getElem_cons_zero, List.getElem_cons_succ, Act.put, List.setIfInBounds_toArray, List.set_cons_zero, List.set_cons_succ]
  refine wpList_plain rfl fun Kt hKt => ?_
  go_simp
  refine hKt _ _ ?_
  clear hKt Kt
  try simp only [List.getElem_toArray, List.getElem_cons_zero, List.getElem_cons_succ, Act.put, List.setIfInBounds_toArray, List.set_cons_zero, List.set_cons_succ]
  have hc := (unhide HX).cell (j := 2) (v := .int .i64 x.known) rfl
  have hd := (unhide HY).cell (j := 2) (v := .int .i64 y.known) rfl
  cases n2
  case true =>
    go_wp2_with fail
    go_ret
    exact ⟨by rw [unhide HR]; simp, unhide HB⟩
  refine wpList_wanted (by kernel_rfl) fun Kt hKt => ?_
  go_simp
  refine hKt _ _ ?_
  clear hKt Kt
  try simp only [List.getElem_toArray, List.getElem_cons_zero, List.getElem_cons_succ, Act.put, List.setIfInBounds_toArray, List.set_cons_zero, List.set_cons_succ]
  refine wpList_wanted (by kernel_rfl) fun Kt hKt => ?_
  go_simp
  refine hKt _ _ ?_
  clear hKt Kt
  try simp only [List.getElem_toArray, List.getElem_cons_zero, List.getElem_cons_succ, Act.put, List.setIfInBounds_toArray, List.set_cons_zero, List.set_cons_succ]
  refine wpList_wanted (by kernel_rfl) fun Kt hKt => ?_
  go_simp
  refine hKt _ _ ?_
  clear hKt Kt
  try simp only [List.getElem_toArray, List.getElem_cons_zero, List.getElem_cons_succ, Act.put, List.setIfInBounds_toArray, List.set_cons_zero, List.set_cons_succ]
  refine wpList_wanted (by kernel_rfl) fun Kt hKt => ?_
  go_simp
  refine hKt _ _ ?_
  clear hKt Kt
  try simp only [List.getElem_toArray, List.getElem_cons_zero, List.getElem_cons_succ, Act.put, List.setIfInBounds_toArray, List.set_cons_zero, List.set_cons_succ]
  refine wpList_wanted (by kernel_rfl) fun Kt hKt => ?_
  go_simp
  refine hKt _ _ ?_
  clear hKt Kt
  try simp only [List.getElem_toArray, List.getElem_cons_zero, List.getElem_cons_succ, Act.put, List.setIfInBounds_toArray, List.set_cons_zero, List.set_cons_succ]
  clear hc hd
  refine wpList_plain rfl fun Kt hKt => ?_
  go_simp
  refine hKt _ _ ?_
  clear hKt Kt
  try simp only [List.getElem_toArray, List.getElem_cons_zero, List.getElem_cons_succ, Act.put, List.setIfInBounds_toArray, List.set_cons_zero, List.set_cons_succ]
  refine wpList_plain rfl fun Kt hKt => ?_
  go_simp
  refine hKt _ _ ?_
  clear hKt Kt
  try simp only [List.getElem_toArray, List.getElem_cons_zero, List.getElem_cons_succ, Act.put, List.setIfInBounds_toArray, List.set_cons_zero, List.set_cons_succ]
  refine wpList_wanted (by kernel_rfl) fun Kt hKt => ?_
  go_simp
  refine hKt _ _ ?_
  clear hKt Kt
  try simp only [List.getElem_toArray, List.getElem_cons_zero, List.getElem_cons_succ, Act.put, List.setIfInBounds_toArray, List.set_cons_zero, List.set_cons_succ]
  refine wpList_vgload (by kernel_rfl) 28 (.tmp 27) rfl w.heap.size 7 rfl _ Tryz.underlying28 rfl (xC x.xg x.venue) infoFx (unhide HX).fx ?_
  try simp only [List.getElem_toArray, List.getElem_cons_zero, List.getElem_cons_succ, Act.put, List.setIfInBounds_toArray, List.set_cons_zero, List.set_cons_succ]
  refine wpList_wanted (by kernel_rfl) fun Kt hKt => ?_
  go_simp
  refine hKt _ _ ?_
  clear hKt Kt
  try simp only [List.getElem_toArray, List.getElem_cons_zero, List.getElem_cons_succ, Act.put, List.setIfInBounds_toArray, List.set_cons_zero, List.set_cons_succ]
  refine wpList_vgload (by kernel_rfl) 28 (.tmp 29) rfl (w.heap.size + 1) 7 rfl _ Tryz.underlying28 rfl (xC y.xg y.venue) infoFx (unhide HY).fx ?_
  try simp only [List.getElem_toArray, List.getElem_cons_zero, List.getElem_cons_succ, Act.put, List.setIfInBounds_toArray, List.set_cons_zero, List.set_cons_succ]
  refine wpList_cmpN (by kernel_rfl) 28 28 (.tmp 28) (.tmp 30) rfl _ _ _ n3 hn3 rfl rfl (by kernel_rfl) (fx_cmp x y _) ?_
  try simp only [List.getElem_toArray, List.getElem_cons_zero, List.getElem_cons_succ, Act.put, List.setIfInBounds_toArray, List.set_cons_zero, List.set_cons_succ]
  clear hn3
  cases n3
  case true =>
    go_wp2_with fail
    go_ret
    exact ⟨by rw [unhide HR]; simp, unhide HB⟩
  refine wpList_plain rfl fun Kt hKt => ?_
  go_simp
  refine hKt _ _ ?_
  clear hKt Kt
  try simp only [List.getElem_toArray, List.getElem_cons_zero, List.getElem_cons_succ, Act.put, List.setIfInBounds_toArray, List.set_cons_zero, List.set_cons_succ]
  refine wpList_plain rfl fun Kt hKt => ?_
  go_simp
  refine hKt _ _ ?_
  clear hKt Kt
  try simp only [List.getElem_toArray, List.getElem_cons_zero, List.getElem_cons_succ, Act.put, List.setIfInBounds_toArray, List.set_cons_zero, List.set_cons_succ]
  refine wpList_wanted (by kernel_rfl) fun Kt hKt => ?_
  go_simp
  refine hKt _ _ ?_
  clear hKt Kt
  try simp only [List.getElem_toArray, List.getElem_cons_zero, List.getElem_cons_succ, Act.put, List.setIfInBounds_toArray, List.set_cons_zero, List.set_cons_succ]
  refine wpList_vgload (by kernel_rfl) 35 (.tmp 34) rfl w.heap.size 25 rfl _ Tryz.underlying35 rfl (rC x.r) infoRu (unhide HX).fr ?_
  try simp only [List.getElem_toArray, List.getElem_cons_zero, List.getElem_cons_succ, Act.put, List.setIfInBounds_toArray, List.set_cons_zero, List.set_cons_succ]
  refine wpList_wanted (by kernel_rfl) fun Kt hKt => ?_
  go_simp
  refine hKt _ _ ?_
  clear hKt Kt
  try simp only [List.getElem_toArray, List.getElem_cons_zero, List.getElem_cons_succ, Act.put, List.setIfInBounds_toArray, List.set_cons_zero, List.set_cons_succ]
  refine wpList_vgload (by kernel_rfl) 35 (.tmp 36) rfl (w.heap.size + 1) 25 rfl _ Tryz.underlying35 rfl (rC y.r) infoRu (unhide HY).fr ?_
  try simp only [List.getElem_toArray, List.getElem_cons_zero, List.getElem_cons_succ, Act.put, List.setIfInBounds_toArray, List.set_cons_zero, List.set_cons_succ]
  refine wpList_cmpN (by kernel_rfl) 35 35 (.tmp 35) (.tmp 37) rfl _ _ _ n4 hn4 rfl rfl (by kernel_rfl) (ru_cmp x.r y.r _) ?_
  try simp only [List.getElem_toArray, List.getElem_cons_zero, List.getElem_cons_succ, Act.put, List.setIfInBounds_toArray, List.set_cons_zero, List.set_cons_succ]
  clear hn4
  cases n4
  case true =>
    go_wp2_with fail
    go_ret
    exact ⟨by rw [unhide HR]; simp, unhide HB⟩
  refine wpList_plain rfl fun Kt hKt => ?_
  go_simp
  refine hKt _ _ ?_
  clear hKt Kt
  try simp only [List.getElem_toArray, List.getElem_cons_zero, List.getElem_cons_succ, Act.put, List.setIfInBounds_toArray, List.set_cons_zero, List.set_cons_succ]
  refine wpList_plain rfl fun Kt hKt => ?_
  go_simp
  refine hKt _ _ ?_
  clear hKt Kt
  try simp only [List.getElem_toArray, List.getElem_cons_zero, List.getElem_cons_succ, Act.put, List.setIfInBounds_toArray, List.set_cons_zero, List.set_cons_succ]
  refine wpList_wanted (by kernel_rfl) fun Kt hKt => ?_
  go_simp
  refine hKt _ _ ?_
  clear hKt Kt
  try simp only [List.getElem_toArray, List.getElem_cons_zero, List.getElem_cons_succ, Act.put, List.setIfInBounds_toArray, List.set_cons_zero, List.set_cons_succ]
  refine wpList_vgload (by kernel_rfl) 37 (.tmp 41) rfl w.heap.size 42 rfl _ Tryz.underlying37 rfl (pC x) infoAp (unhide HX).fp ?_
  try simp only [List.getElem_toArray, List.getElem_cons_zero, List.getElem_cons_succ, Act.put, List.setIfInBounds_toArray, List.set_cons_zero, List.set_cons_succ]
  refine wpList_wanted (by kernel_rfl) fun Kt hKt => ?_
  go_simp
  refine hKt _ _ ?_
  clear hKt Kt
  try simp only [List.getElem_toArray, List.getElem_cons_zero, List.getElem_cons_succ, Act.put, List.setIfInBounds_toArray, List.set_cons_zero, List.set_cons_succ]
  refine wpList_vgload (by kernel_rfl) 37 (.tmp 43) rfl (w.heap.size + 1) 42 rfl _ Tryz.underlying37 rfl (pC y) infoAp (unhide HY).fp ?_
  try simp only [List.getElem_toArray, List.getElem_cons_zero, List.getElem_cons_succ, Act.put, List.setIfInBounds_toArray, List.set_cons_zero, List.set_cons_succ]
  refine wpList_cmpN (by kernel_rfl) 37 37 (.tmp 42) (.tmp 44) rfl _ _ _ n5 hn5 rfl rfl (by kernel_rfl) (ap_cmp x y _) ?_
  try simp only [List.getElem_toArray, List.getElem_cons_zero, List.getElem_cons_succ, Act.put, List.setIfInBounds_toArray, List.set_cons_zero, List.set_cons_succ]
  clear hn5
  cases n5
  case true =>
    go_wp2_with fail
    go_ret
    exact ⟨by rw [unhide HR]; simp, unhide HB⟩
  refine wpList_plain rfl fun Kt hKt => ?_
  go_simp
  refine hKt _ _ ?_
  clear hKt Kt
  try simp only [List.getElem_toArray, List.getElem_cons_zero, List.getElem_cons_succ, Act.put, List.setIfInBounds_toArray, List.set_cons_zero, List.set_cons_succ]
  refine wpList_plain rfl fun Kt hKt => ?_
  go_simp
  refine hKt _ _ ?_
  clear hKt Kt
  try simp only [List.getElem_toArray, List.getElem_cons_zero, List.getElem_cons_succ, Act.put, List.setIfInBounds_toArray, List.set_cons_zero, List.set_cons_succ]
  refine wpList_wanted (by kernel_rfl) fun Kt hKt => ?_
  go_simp
  refine hKt _ _ ?_
  clear hKt Kt
  try simp only [List.getElem_toArray, List.getElem_cons_zero, List.getElem_cons_succ, Act.put, List.setIfInBounds_toArray, List.set_cons_zero, List.set_cons_succ]
  refine wpList_vgload (by kernel_rfl) 39 (.tmp 48) rfl w.heap.size 45 rfl _ Tryz.underlying39 rfl (mC x) infoMv (unhide HX).fm ?_
  try simp only [List.getElem_toArray, List.getElem_cons_zero, List.getElem_cons_succ, Act.put, List.setIfInBounds_toArray, List.set_cons_zero, List.set_cons_succ]
  refine wpList_wanted (by kernel_rfl) fun Kt hKt => ?_
  go_simp
  refine hKt _ _ ?_
  clear hKt Kt
  try simp only [List.getElem_toArray, List.getElem_cons_zero, List.getElem_cons_succ, Act.put, List.setIfInBounds_toArray, List.set_cons_zero, List.set_cons_succ]
  refine wpList_vgload (by kernel_rfl) 39 (.tmp 50) rfl (w.heap.size + 1) 45 rfl _ Tryz.underlying39 rfl (mC y) infoMv (unhide HY).fm ?_
  try simp only [List.getElem_toArray, List.getElem_cons_zero, List.getElem_cons_succ, Act.put, List.setIfInBounds_toArray, List.set_cons_zero, List.set_cons_succ]
  refine wpList_cmpN (by kernel_rfl) 39 39 (.tmp 49) (.tmp 51) rfl _ _ _ n6 hn6 rfl rfl (by kernel_rfl) (mv_cmp x y _) ?_
  try simp only [List.getElem_toArray, List.getElem_cons_zero, List.getElem_cons_succ, Act.put, List.setIfInBounds_toArray, List.set_cons_zero, List.set_cons_succ]
  clear hn6
  cases n6
  case true =>
    go_wp2_with fail
    go_ret
    exact ⟨by rw [unhide HR]; simp, unhide HB⟩
  refine wpList_plain rfl fun Kt hKt => ?_
  go_simp
  refine hKt _ _ ?_
  clear hKt Kt
  try simp only [List.getElem_toArray, List.getElem_cons_zero, List.getElem_cons_succ, Act.put, List.setIfInBounds_toArray, List.set_cons_zero, List.set_cons_succ]
  refine wpList_plain rfl fun Kt hKt => ?_
  go_simp
  refine hKt _ _ ?_
  clear hKt Kt
  try simp only [List.getElem_toArray, List.getElem_cons_zero, List.getElem_cons_succ, Act.put, List.setIfInBounds_toArray, List.set_cons_zero, List.set_cons_succ]
  refine wpList_wanted (by kernel_rfl) fun Kt hKt => ?_
  go_simp
  refine hKt _ _ ?_
  clear hKt Kt
  try simp only [List.getElem_toArray, List.getElem_cons_zero, List.getElem_cons_succ, Act.put, List.setIfInBounds_toArray, List.set_cons_zero, List.set_cons_succ]
  refine wpList_vgload (by kernel_rfl) 43 (.tmp 55) rfl w.heap.size 50 rfl _ Tryz.underlying43 rfl (vC x) (by rw [vC, List.length_map, (unhide FX).void]; exact infoDg) (unhide HX).fv ?_
  try simp only [List.getElem_toArray, List.getElem_cons_zero, List.getElem_cons_succ, Act.put, List.setIfInBounds_toArray, List.set_cons_zero, List.set_cons_succ]
  refine wpList_wanted (by kernel_rfl) fun Kt hKt => ?_
  go_simp
  refine hKt _ _ ?_
  clear hKt Kt
  try simp only [List.getElem_toArray, List.getElem_cons_zero, List.getElem_cons_succ, Act.put, List.setIfInBounds_toArray, List.set_cons_zero, List.set_cons_succ]
  refine wpList_vgload (by kernel_rfl) 43 (.tmp 57) rfl (w.heap.size + 1) 50 rfl _ Tryz.underlying43 rfl (vC y) (by rw [vC, List.length_map, (unhide FY).void]; exact infoDg) (unhide HY).fv ?_
  try simp only [List.getElem_toArray, List.getElem_cons_zero, List.getElem_cons_succ, Act.put, List.setIfInBounds_toArray, List.set_cons_zero, List.set_cons_succ]
  refine wpList_cmpN (by kernel_rfl) 43 43 (.tmp 56) (.tmp 58) rfl _ _ _ n7 hn7 rfl rfl (by kernel_rfl) (dg_cmp x.void y.void (unhide FX).void (unhide FY).void _) ?_
  try simp only [List.getElem_toArray, List.getElem_cons_zero, List.getElem_cons_succ, Act.put, List.setIfInBounds_toArray, List.set_cons_zero, List.set_cons_succ]
  clear hn7
  cases n7
  case true =>
    go_wp2_with fail
    go_ret
    exact ⟨by rw [unhide HR]; simp, unhide HB⟩
  refine wpList_plain rfl fun Kt hKt => ?_
  go_simp
  refine hKt _ _ ?_
  clear hKt Kt
  try simp only [List.getElem_toArray, List.getElem_cons_zero, List.getElem_cons_succ, Act.put, List.setIfInBounds_toArray, List.set_cons_zero, List.set_cons_succ]
  refine wpList_nil ?_
  go_upto_region 3 with fail
  refine wp_region_lit ?_
  refine wpList_plain rfl fun Kt hKt => ?_
  go_simp
  refine hKt _ _ ?_
  clear hKt Kt
  try simp only [List.getElem_toArray, List.getElem_cons_zero, List.getElem_cons_succ, Act.put, List.setIfInBounds_toArray, List.set_cons_zero, List.set_cons_succ]
  refine wpList_vload rfl 24 (.tmp 61) rfl w.heap.size 3 rfl _ Tryz.underlying24 rfl (eC x.e a.cl a.ncl) infoEn (unhide HX).fe ?_
  try simp only [List.getElem_toArray, List.getElem_cons_zero, List.getElem_cons_succ, Act.put, List.setIfInBounds_toArray, List.set_cons_zero, List.set_cons_succ]
  refine wpList_plain rfl fun Kt hKt => ?_
  go_simp
  generalize hXn : World.alloc _ _ = W3
  have hBn : Below W2.heap.size W2 W3 := hXn ▸ (Below.refl _ _).alloc (Nat.le_refl _) _
  have hvn := boxedV W2 W3 (eC e0 none 0) 24 (by rw [← hXn]; rfl)
  have hz := unhide HSZ
  rw [hz] at hvn ⊢
  refine hKt _ _ ?_
  clear hKt Kt hXn
  try simp only [List.getElem_toArray, List.getElem_cons_zero, List.getElem_cons_succ, Act.put, List.setIfInBounds_toArray, List.set_cons_zero, List.set_cons_succ]
  have HX := hide ((unhide HX).keep hBn); have HY := hide ((unhide HY).keep hBn); have HB := hide (thenB (unhide HB) hBn)
  refine wpList_vput rfl 24 (.tmp 5) (.tmp 62) rfl (w.heap.size + 2) 0 rfl (eC x.e a.cl a.ncl) rfl infoEn (eC_one _ _ _) _ (eC e0 none 0) hvn (show 0 + 4 ≤ 4 by omega) ?_
  intro W4 HP HGx
  rw [spliceV_all (eC e0 none 0) (eC x.e a.cl a.ncl) rfl] at HP
  have HX := hide ((unhide HX).grown (unhide HGx) (fun e => by injection e with e; omega))
  have HY := hide ((unhide HY).grown (unhide HGx) (fun e => by injection e with e; omega))
  have HB := hide ((unhide HB).grown (unhide HGx) (unhide HB).size (fun i e => by injection e with e; omega))
  clear hBn hvn HGx hz HSZ
  refine wpList_nil ?_
  go_upto_region 4 with fail
  refine wp_region_lit ?_
  refine wpList_plain rfl fun Kt hKt => ?_
  go_simp
  refine hKt _ _ ?_
  clear hKt Kt
  try simp only [List.getElem_toArray, List.getElem_cons_zero, List.getElem_cons_succ, Act.put, List.setIfInBounds_toArray, List.set_cons_zero, List.set_cons_succ]
  refine wpList_vload rfl 24 (.tmp 63) rfl (w.heap.size + 1) 3 rfl _ Tryz.underlying24 rfl (eC y.e c.cl c.ncl) infoEn (unhide HY).fe ?_
  try simp only [List.getElem_toArray, List.getElem_cons_zero, List.getElem_cons_succ, Act.put, List.setIfInBounds_toArray, List.set_cons_zero, List.set_cons_succ]
  refine wpList_plain rfl fun Kt hKt => ?_
  go_simp
  generalize hXn : World.alloc _ _ = W5
  have hBn : Below W4.heap.size W4 W5 := hXn ▸ (Below.refl _ _).alloc (Nat.le_refl _) _
  have hvn := boxedV W4 W5 (eC e0 none 0) 24 (by rw [← hXn]; rfl)
  obtain ⟨N, hN⟩ : ∃ N, N = W4.heap.size := ⟨_, rfl⟩
  have hNl : w.heap.size + 2 < N := by rw [hN]; exact lt_of_block (unhide HP)
  rw [← hN] at hvn ⊢
  refine hKt _ _ ?_
  clear hKt Kt hXn
  try simp only [List.getElem_toArray, List.getElem_cons_zero, List.getElem_cons_succ, Act.put, List.setIfInBounds_toArray, List.set_cons_zero, List.set_cons_succ]
  have HX := hide ((unhide HX).keep hBn); have HY := hide ((unhide HY).keep hBn); have HP := hide ((unhide HP).keep hBn); have HB := hide (thenB (unhide HB) hBn)
  refine wpList_vput rfl 24 (.tmp 6) (.tmp 64) rfl N 0 rfl (eC y.e c.cl c.ncl) rfl infoEn (eC_one _ _ _) _ (eC e0 none 0) hvn (show 0 + 4 ≤ 4 by omega) ?_
  intro W6 HQ HGx
  rw [spliceV_all (eC e0 none 0) (eC y.e c.cl c.ncl) rfl] at HQ
  have HX := hide ((unhide HX).grown (unhide HGx) (fun e => by injection e with e; omega))
  have HY := hide ((unhide HY).grown (unhide HGx) (fun e => by injection e with e; omega))
  have HP := hide ((unhide HP).grown (unhide HGx) (fun e => by injection e with e; omega))
  have HB := hide ((unhide HB).grown (unhide HGx) (unhide HB).size (fun i e => by injection e with e; omega))
  clear hBn hvn HGx hN hNl
  refine wpList_nil ?_
  go_upto_region 5 with fail
  refine wp_region_lit ?_
  have hq := unhide EH0
  have hc := (unhide HP).cell (j := 0) (v := .int .i64 x.e.s) rfl
  have hd := (unhide HQ).cell (j := 0) (v := .int .i64 y.e.s) rfl
  cases u0
  case false =>
    go_wp2_with fail
    go_ret
    exact ⟨by rw [unhide HR]; simp, unhide HB⟩
  refine wpList_plain rfl fun Kt hKt => ?_
  go_simp
  refine hKt _ _ ?_
  clear hKt Kt
  try simp only [List.getElem_toArray, List.getElem_cons_zero, List.getElem_cons_succ, Act.put, List.setIfInBounds_toArray, List.set_cons_zero, List.set_cons_succ]
  refine wpList_plain rfl fun Kt hKt => ?_
  go_simp
  refine hKt _ _ ?_
  clear hKt Kt
  try simp only [List.getElem_toArray, List.getElem_cons_zero, List.getElem_cons_succ, Act.put, List.setIfInBounds_toArray, List.set_cons_zero, List.set_cons_succ]
  refine wpList_plain rfl fun Kt hKt => ?_
  go_simp
  refine hKt _ _ ?_
  clear hKt Kt
  try simp only [List.getElem_toArray, List.getElem_cons_zero, List.getElem_cons_succ, Act.put, List.setIfInBounds_toArray, List.set_cons_zero, List.set_cons_succ]
  refine wpList_plain rfl fun Kt hKt => ?_
  go_simp
  refine hKt _ _ ?_
  clear hKt Kt
  try simp only [List.getElem_toArray, List.getElem_cons_zero, List.getElem_cons_succ, Act.put, List.setIfInBounds_toArray, List.set_cons_zero, List.set_cons_succ]
  refine wpList_plain rfl fun Kt hKt => ?_
  go_simp
  refine hKt _ _ ?_
  clear hKt Kt
  try simp only [List.getElem_toArray, List.getElem_cons_zero, List.getElem_cons_succ, Act.put, List.setIfInBounds_toArray, List.set_cons_zero, List.set_cons_succ]
  clear hc hd hq
  refine wpList_plain rfl fun Kt hKt => ?_
  go_simp
  refine hKt _ _ ?_
  clear hKt Kt
  try simp only [List.getElem_toArray, List.getElem_cons_zero, List.getElem_cons_succ, Act.put, List.setIfInBounds_toArray, List.set_cons_zero, List.set_cons_succ]
  have hq := unhide EH1
  have hc := (unhide HP).cell (j := 1) (v := .int .i64 x.e.c) rfl
  have hd := (unhide HQ).cell (j := 1) (v := .int .i64 y.e.c) rfl
  cases u1
  case false =>
    go_wp2_with fail
    go_ret
    exact ⟨by rw [unhide HR]; simp, unhide HB⟩
  refine wpList_wanted (by kernel_rfl) fun Kt hKt => ?_
  go_simp
  refine hKt _ _ ?_
  clear hKt Kt
  try simp only [List.getElem_toArray, List.getElem_cons_zero, List.getElem_cons_succ, Act.put, List.setIfInBounds_toArray, List.set_cons_zero, List.set_cons_succ]
  refine wpList_wanted (by kernel_rfl) fun Kt hKt => ?_
  go_simp
  refine hKt _ _ ?_
  clear hKt Kt
  try simp only [List.getElem_toArray, List.getElem_cons_zero, List.getElem_cons_succ, Act.put, List.setIfInBounds_toArray, List.set_cons_zero, List.set_cons_succ]
  refine wpList_wanted (by kernel_rfl) fun Kt hKt => ?_
  go_simp
  refine hKt _ _ ?_
  clear hKt Kt
  try simp only [List.getElem_toArray, List.getElem_cons_zero, List.getElem_cons_succ, Act.put, List.setIfInBounds_toArray, List.set_cons_zero, List.set_cons_succ]
  refine wpList_wanted (by kernel_rfl) fun Kt hKt => ?_
  go_simp
  refine hKt _ _ ?_
  clear hKt Kt
  try simp only [List.getElem_toArray, List.getElem_cons_zero, List.getElem_cons_succ, Act.put, List.setIfInBounds_toArray, List.set_cons_zero, List.set_cons_succ]
  refine wpList_wanted (by kernel_rfl) fun Kt hKt => ?_
  go_simp
  refine hKt _ _ ?_
  clear hKt Kt
  try simp only [List.getElem_toArray, List.getElem_cons_zero, List.getElem_cons_succ, Act.put, List.setIfInBounds_toArray, List.set_cons_zero, List.set_cons_succ]
  clear hc hd hq
  refine wpList_plain rfl fun Kt hKt => ?_
  go_simp
  refine hKt _ _ ?_
  clear hKt Kt
  try simp only [List.getElem_toArray, List.getElem_cons_zero, List.getElem_cons_succ, Act.put, List.setIfInBounds_toArray, List.set_cons_zero, List.set_cons_succ]
  refine wpList_plain rfl fun Kt hKt => ?_
  go_simp
  refine hKt _ _ ?_
  clear hKt Kt
  try simp only [List.getElem_toArray, List.getElem_cons_zero, List.getElem_cons_succ, Act.put, List.setIfInBounds_toArray, List.set_cons_zero, List.set_cons_succ]
  have hq := unhide EH2
  have hc := (unhide HP).cell (j := 3) (v := .string x.e.rules) rfl
  have hd := (unhide HQ).cell (j := 3) (v := .string y.e.rules) rfl
  cases u2
  case false =>
    go_wp2_with fail
    go_ret
    exact ⟨by rw [unhide HR]; simp, unhide HB⟩
  refine wpList_wanted (by kernel_rfl) fun Kt hKt => ?_
  go_simp
  refine hKt _ _ ?_
  clear hKt Kt
  try simp only [List.getElem_toArray, List.getElem_cons_zero, List.getElem_cons_succ, Act.put, List.setIfInBounds_toArray, List.set_cons_zero, List.set_cons_succ]
  refine wpList_wanted (by kernel_rfl) fun Kt hKt => ?_
  go_simp
  refine hKt _ _ ?_
  clear hKt Kt
  try simp only [List.getElem_toArray, List.getElem_cons_zero, List.getElem_cons_succ, Act.put, List.setIfInBounds_toArray, List.set_cons_zero, List.set_cons_succ]
  refine wpList_wanted (by kernel_rfl) fun Kt hKt => ?_
  go_simp
  refine hKt _ _ ?_
  clear hKt Kt
  try simp only [List.getElem_toArray, List.getElem_cons_zero, List.getElem_cons_succ, Act.put, List.setIfInBounds_toArray, List.set_cons_zero, List.set_cons_succ]
  refine wpList_wanted (by kernel_rfl) fun Kt hKt => ?_
  go_simp
  refine hKt _ _ ?_
  clear hKt Kt
  try simp only [List.getElem_toArray, List.getElem_cons_zero, List.getElem_cons_succ, Act.put, List.setIfInBounds_toArray, List.set_cons_zero, List.set_cons_succ]
  refine wpList_wanted (by kernel_rfl) fun Kt hKt => ?_
  go_simp
  refine hKt _ _ ?_
  clear hKt Kt
  try simp only [List.getElem_toArray, List.getElem_cons_zero, List.getElem_cons_succ, Act.put, List.setIfInBounds_toArray, List.set_cons_zero, List.set_cons_succ]
  clear hc hd hq
  refine wpList_plain rfl fun Kt hKt => ?_
  go_simp
  refine hKt _ _ ?_
  clear hKt Kt
  try simp only [List.getElem_toArray, List.getElem_cons_zero, List.getElem_cons_succ, Act.put, List.setIfInBounds_toArray, List.set_cons_zero, List.set_cons_succ]
  refine wpList_plain rfl fun Kt hKt => ?_
  go_simp
  refine hKt _ _ ?_
  clear hKt Kt
  try simp only [List.getElem_toArray, List.getElem_cons_zero, List.getElem_cons_succ, Act.put, List.setIfInBounds_toArray, List.set_cons_zero, List.set_cons_succ]
  have hc := (unhide HP).cell (j := 2) (v := .slice a.cl x.e.clubs.length a.ncl) rfl
  have hd := (unhide HQ).cell (j := 2) (v := .slice c.cl y.e.clubs.length c.ncl) rfl
  refine wpList_wanted (by kernel_rfl) fun Kt hKt => ?_
  go_simp
  refine hKt _ _ ?_
  clear hKt Kt
  try simp only [List.getElem_toArray, List.getElem_cons_zero, List.getElem_cons_succ, Act.put, List.setIfInBounds_toArray, List.set_cons_zero, List.set_cons_succ]
  refine wpList_wanted (by kernel_rfl) fun Kt hKt => ?_
  go_simp
  refine hKt _ _ ?_
  clear hKt Kt
  try simp only [List.getElem_toArray, List.getElem_cons_zero, List.getElem_cons_succ, Act.put, List.setIfInBounds_toArray, List.set_cons_zero, List.set_cons_succ]
  refine wpList_wanted (by kernel_rfl) fun Kt hKt => ?_
  go_simp
  refine hKt _ _ ?_
  clear hKt Kt
  try simp only [List.getElem_toArray, List.getElem_cons_zero, List.getElem_cons_succ, Act.put, List.setIfInBounds_toArray, List.set_cons_zero, List.set_cons_succ]
  refine wpList_wanted (by kernel_rfl) fun Kt hKt => ?_
  go_simp
  refine hKt _ _ ?_
  clear hKt Kt
  try simp only [List.getElem_toArray, List.getElem_cons_zero, List.getElem_cons_succ, Act.put, List.setIfInBounds_toArray, List.set_cons_zero, List.set_cons_succ]
  clear hc hd
  refine wpList_wanted (by kernel_rfl) fun Kt hKt => ?_
  go_simp
  refine (rsameInts_any W6 a.cl x.e.clubs.length a.ncl x.e.clubs rfl ((unhide FX).cl.keep (unhide HB)) c.cl y.e.clubs.length c.ncl y.e.clubs rfl ((unhide FY).cl.keep (unhide HB))).mono ?_; rintro x' W7 ⟨rfl, hG⟩
  dsimp only
  rw [unhide EH3]
  refine hKt _ _ ?_
  clear hKt Kt
  have HX := hide ((unhide HX).keep hG); have HY := hide ((unhide HY).keep hG); have HP := hide ((unhide HP).keep hG); have HQ := hide ((unhide HQ).keep hG); have HB := hide (thenB (unhide HB) hG)
  clear hG
  try simp only [List.getElem_toArray, List.getElem_cons_zero, List.getElem_cons_succ, Act.put, List.setIfInBounds_toArray, List.set_cons_zero, List.set_cons_succ]
  cases u3
  case false =>
    go_wp2_with fail
    go_ret
    exact ⟨by rw [unhide HR]; simp, unhide HB⟩
  refine wpList_plain rfl fun Kt hKt => ?_
  go_simp
  refine hKt _ _ ?_
  clear hKt Kt
  try simp only [List.getElem_toArray, List.getElem_cons_zero, List.getElem_cons_succ, Act.put, List.setIfInBounds_toArray, List.set_cons_zero, List.set_cons_succ]
  refine wpList_plain rfl fun Kt hKt => ?_
  go_simp
  refine hKt _ _ ?_
  clear hKt Kt
  try simp only [List.getElem_toArray, List.getElem_cons_zero, List.getElem_cons_succ, Act.put, List.setIfInBounds_toArray, List.set_cons_zero, List.set_cons_succ]
  have hq := unhide EH4
  have hc := (unhide HX).cell (j := 47) (v := .int .i64 x.ls) rfl
  have hd := (unhide HY).cell (j := 47) (v := .int .i64 y.ls) rfl
  cases u4
  case false =>
    go_wp2_with fail
    go_ret
    exact ⟨by rw [unhide HR]; simp, unhide HB⟩
  refine wpList_wanted (by kernel_rfl) fun Kt hKt => ?_
  go_simp
  refine hKt _ _ ?_
  clear hKt Kt
  try simp only [List.getElem_toArray, List.getElem_cons_zero, List.getElem_cons_succ, Act.put, List.setIfInBounds_toArray, List.set_cons_zero, List.set_cons_succ]
  refine wpList_wanted (by kernel_rfl) fun Kt hKt => ?_
  go_simp
  refine hKt _ _ ?_
  clear hKt Kt
  try simp only [List.getElem_toArray, List.getElem_cons_zero, List.getElem_cons_succ, Act.put, List.setIfInBounds_toArray, List.set_cons_zero, List.set_cons_succ]
  refine wpList_wanted (by kernel_rfl) fun Kt hKt => ?_
  go_simp
  refine hKt _ _ ?_
  clear hKt Kt
  try simp only [List.getElem_toArray, List.getElem_cons_zero, List.getElem_cons_succ, Act.put, List.setIfInBounds_toArray, List.set_cons_zero, List.set_cons_succ]
  refine wpList_wanted (by kernel_rfl) fun Kt hKt => ?_
  go_simp
  refine hKt _ _ ?_
  clear hKt Kt
  try simp only [List.getElem_toArray, List.getElem_cons_zero, List.getElem_cons_succ, Act.put, List.setIfInBounds_toArray, List.set_cons_zero, List.set_cons_succ]
  refine wpList_wanted (by kernel_rfl) fun Kt hKt => ?_
  go_simp
  refine hKt _ _ ?_
  clear hKt Kt
  try simp only [List.getElem_toArray, List.getElem_cons_zero, List.getElem_cons_succ, Act.put, List.setIfInBounds_toArray, List.set_cons_zero, List.set_cons_succ]
  refine wpList_wanted (by kernel_rfl) fun Kt hKt => ?_
  go_simp
  refine hKt _ _ ?_
  clear hKt Kt
  try simp only [List.getElem_toArray, List.getElem_cons_zero, List.getElem_cons_succ, Act.put, List.setIfInBounds_toArray, List.set_cons_zero, List.set_cons_succ]
  refine wpList_wanted (by kernel_rfl) fun Kt hKt => ?_
  go_simp
  refine hKt _ _ ?_
  clear hKt Kt
  try simp only [List.getElem_toArray, List.getElem_cons_zero, List.getElem_cons_succ, Act.put, List.setIfInBounds_toArray, List.set_cons_zero, List.set_cons_succ]
  clear hc hd hq
  refine wpList_plain rfl fun Kt hKt => ?_
  go_simp
  refine hKt _ _ ?_
  clear hKt Kt
  try simp only [List.getElem_toArray, List.getElem_cons_zero, List.getElem_cons_succ, Act.put, List.setIfInBounds_toArray, List.set_cons_zero, List.set_cons_succ]
  refine wpList_plain rfl fun Kt hKt => ?_
  go_simp
  refine hKt _ _ ?_
  clear hKt Kt
  try simp only [List.getElem_toArray, List.getElem_cons_zero, List.getElem_cons_succ, Act.put, List.setIfInBounds_toArray, List.set_cons_zero, List.set_cons_succ]
  have hq := unhide EH5
  have hc := (unhide HX).cell (j := 48) (v := .int .i64 x.lc) rfl
  have hd := (unhide HY).cell (j := 48) (v := .int .i64 y.lc) rfl
  cases u5
  case false =>
    go_wp2_with fail
    go_ret
    exact ⟨by rw [unhide HR]; simp, unhide HB⟩
  refine wpList_wanted (by kernel_rfl) fun Kt hKt => ?_
  go_simp
  refine hKt _ _ ?_
  clear hKt Kt
  try simp only [List.getElem_toArray, List.getElem_cons_zero, List.getElem_cons_succ, Act.put, List.setIfInBounds_toArray, List.set_cons_zero, List.set_cons_succ]
  refine wpList_wanted (by kernel_rfl) fun Kt hKt => ?_
  go_simp
  refine hKt _ _ ?_
  clear hKt Kt
  try simp only [List.getElem_toArray, List.getElem_cons_zero, List.getElem_cons_succ, Act.put, List.setIfInBounds_toArray, List.set_cons_zero, List.set_cons_succ]
  refine wpList_wanted (by kernel_rfl) fun Kt hKt => ?_
  go_simp
  refine hKt _ _ ?_
  clear hKt Kt
  try simp only [List.getElem_toArray, List.getElem_cons_zero, List.getElem_cons_succ, Act.put, List.setIfInBounds_toArray, List.set_cons_zero, List.set_cons_succ]
  refine wpList_wanted (by kernel_rfl) fun Kt hKt => ?_
  go_simp
  refine hKt _ _ ?_
  clear hKt Kt
  try simp only [List.getElem_toArray, List.getElem_cons_zero, List.getElem_cons_succ, Act.put, List.setIfInBounds_toArray, List.set_cons_zero, List.set_cons_succ]
  refine wpList_wanted (by kernel_rfl) fun Kt hKt => ?_
  go_simp
  refine hKt _ _ ?_
  clear hKt Kt
  try simp only [List.getElem_toArray, List.getElem_cons_zero, List.getElem_cons_succ, Act.put, List.setIfInBounds_toArray, List.set_cons_zero, List.set_cons_succ]
  refine wpList_wanted (by kernel_rfl) fun Kt hKt => ?_
  go_simp
  refine hKt _ _ ?_
  clear hKt Kt
  try simp only [List.getElem_toArray, List.getElem_cons_zero, List.getElem_cons_succ, Act.put, List.setIfInBounds_toArray, List.set_cons_zero, List.set_cons_succ]
  refine wpList_wanted (by kernel_rfl) fun Kt hKt => ?_
  go_simp
  refine hKt _ _ ?_
  clear hKt Kt
  try simp only [List.getElem_toArray, List.getElem_cons_zero, List.getElem_cons_succ, Act.put, List.setIfInBounds_toArray, List.set_cons_zero, List.set_cons_succ]
  clear hc hd hq
  refine wpList_plain rfl fun Kt hKt => ?_
  go_simp
  refine hKt _ _ ?_
  clear hKt Kt
  try simp only [List.getElem_toArray, List.getElem_cons_zero, List.getElem_cons_succ, Act.put, List.setIfInBounds_toArray, List.set_cons_zero, List.set_cons_succ]
  refine wpList_plain rfl fun Kt hKt => ?_
  go_simp
  refine hKt _ _ ?_
  clear hKt Kt
  try simp only [List.getElem_toArray, List.getElem_cons_zero, List.getElem_cons_succ, Act.put, List.setIfInBounds_toArray, List.set_cons_zero, List.set_cons_succ]
  have hc := (unhide HX).cell (j := 49) (v := .slice a.od x.order.length a.nod) rfl
  have hd := (unhide HY).cell (j := 49) (v := .slice c.od y.order.length c.nod) rfl
  refine wpList_wanted (by kernel_rfl) fun Kt hKt => ?_
  go_simp
  refine hKt _ _ ?_
  clear hKt Kt
  try simp only [List.getElem_toArray, List.getElem_cons_zero, List.getElem_cons_succ, Act.put, List.setIfInBounds_toArray, List.set_cons_zero, List.set_cons_succ]
  refine wpList_wanted (by kernel_rfl) fun Kt hKt => ?_
  go_simp
  refine hKt _ _ ?_
  clear hKt Kt
  try simp only [List.getElem_toArray, List.getElem_cons_zero, List.getElem_cons_succ, Act.put, List.setIfInBounds_toArray, List.set_cons_zero, List.set_cons_succ]
  refine wpList_wanted (by kernel_rfl) fun Kt hKt => ?_
  go_simp
  refine hKt _ _ ?_
  clear hKt Kt
  try simp only [List.getElem_toArray, List.getElem_cons_zero, List.getElem_cons_succ, Act.put, List.setIfInBounds_toArray, List.set_cons_zero, List.set_cons_succ]
  refine wpList_wanted (by kernel_rfl) fun Kt hKt => ?_
  go_simp
  refine hKt _ _ ?_
  clear hKt Kt
  try simp only [List.getElem_toArray, List.getElem_cons_zero, List.getElem_cons_succ, Act.put, List.setIfInBounds_toArray, List.set_cons_zero, List.set_cons_succ]
  refine wpList_wanted (by kernel_rfl) fun Kt hKt => ?_
  go_simp
  refine hKt _ _ ?_
  clear hKt Kt
  try simp only [List.getElem_toArray, List.getElem_cons_zero, List.getElem_cons_succ, Act.put, List.setIfInBounds_toArray, List.set_cons_zero, List.set_cons_succ]
  refine wpList_wanted (by kernel_rfl) fun Kt hKt => ?_
  go_simp
  refine hKt _ _ ?_
  clear hKt Kt
  try simp only [List.getElem_toArray, List.getElem_cons_zero, List.getElem_cons_succ, Act.put, List.setIfInBounds_toArray, List.set_cons_zero, List.set_cons_succ]
  clear hc hd
  refine wpList_wanted (by kernel_rfl) fun Kt hKt => ?_
  go_simp
  refine (rsameInts_any W7 a.od x.order.length a.nod x.order rfl ((unhide FX).od.keep (unhide HB)) c.od y.order.length c.nod y.order rfl ((unhide FY).od.keep (unhide HB))).mono ?_; rintro x' W8 ⟨rfl, hG⟩
  dsimp only
  rw [unhide EH6]
  refine hKt _ _ ?_
  clear hKt Kt
  have HX := hide ((unhide HX).keep hG); have HY := hide ((unhide HY).keep hG); have HP := hide ((unhide HP).keep hG); have HQ := hide ((unhide HQ).keep hG); have HB := hide (thenB (unhide HB) hG)
  clear hG
  try simp only [List.getElem_toArray, List.getElem_cons_zero, List.getElem_cons_succ, Act.put, List.setIfInBounds_toArray, List.set_cons_zero, List.set_cons_succ]
  cases u6
  case false =>
    go_wp2_with fail
    go_ret
    exact ⟨by rw [unhide HR]; simp, unhide HB⟩
  refine wpList_plain rfl fun Kt hKt => ?_
  go_simp
  refine hKt _ _ ?_
  clear hKt Kt
  try simp only [List.getElem_toArray, List.getElem_cons_zero, List.getElem_cons_succ, Act.put, List.setIfInBounds_toArray, List.set_cons_zero, List.set_cons_succ]
  refine wpList_plain rfl fun Kt hKt => ?_
  go_simp
  refine hKt _ _ ?_
  clear hKt Kt
  try simp only [List.getElem_toArray, List.getElem_cons_zero, List.getElem_cons_succ, Act.put, List.setIfInBounds_toArray, List.set_cons_zero, List.set_cons_succ]
  refine wpList_wanted (by kernel_rfl) fun Kt hKt => ?_
  go_simp
  refine hKt _ _ ?_
  clear hKt Kt
  try simp only [List.getElem_toArray, List.getElem_cons_zero, List.getElem_cons_succ, Act.put, List.setIfInBounds_toArray, List.set_cons_zero, List.set_cons_succ]
  refine wpList_vgload (by kernel_rfl) 31 (.tmp 119) rfl w.heap.size 12 rfl _ Tryz.underlying31 rfl (sC x.sh a) infoSh (unhide HX).fs ?_
  try simp only [List.getElem_toArray, List.getElem_cons_zero, List.getElem_cons_succ, Act.put, List.setIfInBounds_toArray, List.set_cons_zero, List.set_cons_succ]
  refine wpList_wanted (by kernel_rfl) fun Kt hKt => ?_
  go_simp
  refine hKt _ _ ?_
  clear hKt Kt
  try simp only [List.getElem_toArray, List.getElem_cons_zero, List.getElem_cons_succ, Act.put, List.setIfInBounds_toArray, List.set_cons_zero, List.set_cons_succ]
  refine wpList_vgload (by kernel_rfl) 31 (.tmp 121) rfl (w.heap.size + 1) 12 rfl _ Tryz.underlying31 rfl (sC y.sh c) infoSh (unhide HY).fs ?_
  try simp only [List.getElem_toArray, List.getElem_cons_zero, List.getElem_cons_succ, Act.put, List.setIfInBounds_toArray, List.set_cons_zero, List.set_cons_succ]
  refine wpList_wanted (by kernel_rfl) fun Kt hKt => ?_
  go_simp
  refine (rsameSh_any x.sh y.sh a c W8 ⟨(unhide FX).hs.keep (unhide HB), (unhide FY).hs.keep (unhide HB)⟩ ⟨(unhide FX).as_.keep (unhide HB), (unhide FY).as_.keep (unhide HB)⟩ ⟨(unhide FX).hc.keep (unhide HB), (unhide FY).hc.keep (unhide HB)⟩ ⟨(unhide FX).ac.keep (unhide HB), (unhide FY).ac.keep (unhide HB)⟩).mono ?_; rintro x' W9 ⟨rfl, hG⟩
  dsimp only
  rw [unhide EH7]
  refine hKt _ _ ?_
  clear hKt Kt
  have HX := hide ((unhide HX).keep hG); have HY := hide ((unhide HY).keep hG); have HP := hide ((unhide HP).keep hG); have HQ := hide ((unhide HQ).keep hG); have HB := hide (thenB (unhide HB) hG)
  clear hG
  try simp only [List.getElem_toArray, List.getElem_cons_zero, List.getElem_cons_succ, Act.put, List.setIfInBounds_toArray, List.set_cons_zero, List.set_cons_succ]
  cases u7
  case false =>
    go_wp2_with fail
    go_ret
    exact ⟨by rw [unhide HR]; simp, unhide HB⟩
  refine wpList_plain rfl fun Kt hKt => ?_
  go_simp
  refine hKt _ _ ?_
  clear hKt Kt
  try simp only [List.getElem_toArray, List.getElem_cons_zero, List.getElem_cons_succ, Act.put, List.setIfInBounds_toArray, List.set_cons_zero, List.set_cons_succ]
  go_wp2_with fail
  go_ret
  exact ⟨by rw [unhide HR]; simp, unhide HB⟩
end Go.Proofs.YtdmaopfaeigelaaGreatDoor
