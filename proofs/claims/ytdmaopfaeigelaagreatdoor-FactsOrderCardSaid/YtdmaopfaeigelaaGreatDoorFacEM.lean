/- Contracts over the program of facts: Compare of all facts. -/
import Derived.Test.YtdmaopfaeigelaaGreatDoorFacEJL
import Derived.Test.YtdmaopfaeigelaaGreatDoorFacU
import Derived.Test.YtdmaopfaeigelaaGreatDoorFacR4
import Derived.Lib.BytesEntry
namespace Go.Proofs.YtdmaopfaeigelaaGreatDoor
set_option linter.unusedSimpArgs false
set_option linter.unusedVariables false
set_option maxRecDepth 100000
open Go.RowKit Go.Shelf

theorem bytes_back (l : List UInt8) : Lib.bytesOf (l.map fun b => (b.toNat : Int)) = l := by
  unfold Lib.bytesOf
  rw [List.map_map]
  conv => rhs; rw [← List.map_id l]
  refine List.map_congr_left fun b _ => ?_
  simp
theorem load_bat {w : World} {bv : Value} {l : List UInt8} (h : BAt w bv l) : (Extern.Bytes.bytesOf bv).run Tryz.prog w = .ok ⟨l.toArray⟩ w := by
  obtain ⟨A, c, rfl, hA, _, _, hr⟩ := h
  rcases hA with ⟨rfl, rfl, rfl⟩ | ⟨g, o, rfl, hg⟩
  · rfl
  · have h := Lib.run_loadBytesX (P := Tryz.prog) w (l.map fun b => (b.toNat : Int)) ⟨g, o, none⟩ .empty (fun j x hj => by
      rw [List.getElem?_map] at hj
      cases hb : l[j]? with
      | none => rw [hb] at hj; cases hj
      | some b =>
        rw [hb] at hj
        simp at hj
        subst hj
        obtain ⟨g', o', e, hc⟩ := hr j b hb
        injection e with e
        injection e with e1 e2
        subst e1 e2
        rw [fadd_flat]
        exact hc)
    rw [bytes_back, List.length_map] at h
    have he : (⟨ByteArray.empty.data ++ l.toArray⟩ : ByteArray) = ⟨l.toArray⟩ := by
      apply ByteArray.ext
      show (#[] : Array UInt8) ++ l.toArray = l.toArray
      simp
    rw [he] at h
    exact h
theorem bcompare_any (u v : Value) (l l' : List UInt8) (w : World) (hu : BAt w u l) (hv : BAt w v l') : Calls Tryz.prog 52 #[u, v] w fun e w' => e = .returned (.int .i64 (Lib.compareBytes l l')) ∧ w' = w := by
  have h1 := load_bat hu
  have h2 := load_bat hv
  have hr : (Extern.BytealgCompare.compare #[u, v]).run Tryz.prog w = .ok (.int .i64 (Lib.compareBytes l l')) w := by
    change Sem.run Tryz.prog (do pure (goInt (Extern.BytealgCompare.cmp (← Extern.Bytes.bytesOf u) (← Extern.Bytes.bytesOf v)))) w = _
    simp only [Sem.run_bind, h1, h2, Sem.run_pure, Result.andThen]
    rw [Lib.cmp_eq]
    rfl
  obtain ⟨A1, c1, rfl, _⟩ := hu
  obtain ⟨A2, c2, rfl, _⟩ := hv
  have HR := hide hr
  clear hr h1 h2
  go_enter Tryz.func52, Tryz.ntmps52
  go_wp2
  rw [run_callFunc_extern Tryz.func99 (by kernel_rfl) (by kernel_rfl) (by kernel_rfl) (e := Extern.BytealgCompare.compare) (by kernel_rfl), unhide HR]
  simp only [Result.andThen]
  rw [Oper.upon_value]
  go_wp2
  go_ret
  exact ⟨rfl, rfl⟩
theorem encodingOf_any (f : Fc) (a : Ad) (w : World) (hf : FAt w f a) (hw : FWf f) (hlim : f.e.rules.size ≤ 1000000) (hE : Env w) (hg : gTop ≤ w.heap.size) :
    Calls Tryz.prog 53 #[.agg (fC f a).toArray] w fun e w' => ∃ bv, e = .returned bv ∧ BAt w' bv (fencF f) ∧ Below w.heap.size w w' := by
  have HEN := hide fun W (h : Below w.heap.size w W) => encode_all f a W (hf.keep h) hw hlim (hE.to hg h) (Nat.le_trans hg h.size)
  have hv32 := hf.void
  have H32 := hide hv32
  obtain ⟨l, hl⟩ : ∃ l, l = fencF f := ⟨_, rfl⟩
  obtain ⟨z, hz⟩ : ∃ z : Int, z = if okFact f then 0 else 70 := ⟨_, rfl⟩
  rw [← hl]
  rw [← hl, ← hz] at HEN
  obtain ⟨cs, hcs⟩ : ∃ zz, zz = fC f a := ⟨_, rfl⟩
  rw [← hcs]
  have HCS := hide hcs
  clear hl hz hcs hv32 hf hw hlim hE hg
  go_enter Tryz.func53, Tryz.ntmps53
  go_upto_region 1 with fail
  generalize hX1 : w.alloc _ = W1
  have hB1 : Below w.heap.size w W1 := hX1 ▸ (Below.refl _ _).alloc (Nat.le_refl _) _
  have HV := hide (boxedV w W1 cs 45 (by rw [← hX1]; rfl))
  rw [unhide HCS] at HV
  have HB := hide hB1
  clear hX1 hB1 HCS
  refine wp_region_lit ?_
  refine wpList_vload rfl 45 (.tmp 1) rfl w.heap.size 0 rfl _ Tryz.underlying45 rfl (fC f a) (by rw [fC_length _ _ (unhide H32)]; exact infoFc) (unhide HV).range ?_
  try simp only [List.getElem_toArray, List.getElem_cons_zero, List.getElem_cons_succ, Act.put, List.setIfInBounds_toArray, List.set_cons_zero, List.set_cons_succ]
  refine wpList_wanted (by kernel_rfl) fun Kt hKt => ?_
  go_simp
  refine ((unhide HEN) W1 (unhide HB)).mono ?_; rintro x W2 ⟨bv, rfl, hbv, hG⟩
  dsimp only
  refine hKt _ _ ?_
  clear hKt Kt
  try simp only [List.getElem_toArray, List.getElem_cons_zero, List.getElem_cons_succ, Act.put, List.setIfInBounds_toArray, List.set_cons_zero, List.set_cons_succ]
  have HB2 := hide (thenB (unhide HB) hG); have HBV := hide hbv
  obtain ⟨A6, c6, rfl, _⟩ := hbv
  clear hG
  go_wp2_with fail
  go_ret
  exact ⟨_, rfl, unhide HBV, unhide HB2⟩
/-- how facts are ordered -/
def cmpF (f g : Fc) : Int := if cmpN f g ≠ 0 then cmpN f g else if fcEq f g then 0 else Lib.compareBytes (fencF f) (fencF g)
set_option maxHeartbeats 4000000 in
theorem compare_core (f : Fc) (a : Ad) (g : Fc) (b : Ad) (w : World) (hf : f.void.length = 32) (hg : g.void.length = 32)
    (hs : ∀ W, Below w.heap.size w W → Calls Tryz.prog 26 #[.agg (fC f a).toArray, .agg (fC g b).toArray] W fun e w' => e = .returned (.bool (fcEq f g)) ∧ Below W.heap.size W w')
    (he1 : ∀ W, Below w.heap.size w W → Calls Tryz.prog 53 #[.agg (fC f a).toArray] W fun e w' => ∃ bv, e = .returned bv ∧ BAt w' bv (fencF f) ∧ Below W.heap.size W w')
    (he2 : ∀ W, Below w.heap.size w W → Calls Tryz.prog 53 #[.agg (fC g b).toArray] W fun e w' => ∃ bv, e = .returned bv ∧ BAt w' bv (fencF g) ∧ Below W.heap.size W w') :
    Calls Tryz.prog 24 #[.agg (fC f a).toArray, .agg (fC g b).toArray] w fun e w' => e = .returned (.int .i64 (cmpF f g)) ∧ Below w.heap.size w w' := by
  obtain ⟨R, hR⟩ : ∃ R, R = cmpF f g := ⟨_, rfl⟩
  rw [← hR]
  obtain ⟨cs, hcs⟩ : ∃ cs, cs = fC f a := ⟨_, rfl⟩
  obtain ⟨ds, hds⟩ : ∃ ds, ds = fC g b := ⟨_, rfl⟩
  rw [← hcs, ← hds]
  have HCS := hide hcs; have HDS := hide hds
  have HF := hide hf; have HGG := hide hg
  obtain ⟨z, hz⟩ : ∃ z, z = cmpN f g := ⟨_, rfl⟩
  have HCF : Hid (R = if z ≠ 0 then z else if fcEq f g then 0 else Lib.compareBytes (fencF f) (fencF g)) := by
    have : R = if z ≠ 0 then z else if fcEq f g then 0 else Lib.compareBytes (fencF f) (fencF g) := by rw [hR, hz]; rfl
    exact this
  obtain ⟨sm, hsm⟩ : ∃ b, b = fcEq f g := ⟨_, rfl⟩
  rw [← hsm] at HCF
  have HSM := hide hsm
  obtain ⟨cb, hcb⟩ : ∃ c, c = Lib.compareBytes (fencF f) (fencF g) := ⟨_, rfl⟩
  rw [← hcb] at HCF
  have HCB := hide hcb
  have HS0 := hide hs; have HE1X := hide he1; have HE2X := hide he2
  rw [← hcs, ← hds, ← hsm] at HS0
  rw [← hcs] at HE1X
  rw [← hds] at HE2X
  generalize fencF f = l1 at HE1X HCB hcb
  generalize fencF g = l2 at HE2X HCB hcb
  have HZ : Hid (z = orV [cmpI f.known g.known, cmpI f.day g.day, cmpI f.kind g.kind]) := hz
  have e0 : cs[0]? = some (.int .i64 f.kind) := by rw [hcs]; rfl
  have e1 : cs[1]? = some (.int .i64 f.day) := by rw [hcs]; rfl
  have e2 : cs[2]? = some (.int .i64 f.known) := by rw [hcs]; rfl
  have d0 : ds[0]? = some (.int .i64 g.kind) := by rw [hds]; rfl
  have d1 : ds[1]? = some (.int .i64 g.day) := by rw [hds]; rfl
  have d2 : ds[2]? = some (.int .i64 g.known) := by rw [hds]; rfl
  have HE0 := hide e0; have HE1 := hide e1; have HE2 := hide e2; have HD0 := hide d0; have HD1 := hide d1; have HD2 := hide d2
  clear hcs hds hf hg hz hs he1 he2 hsm hcb hR e0 e1 e2 d0 d1 d2
  generalize f.kind = fk at *
  generalize f.day = fd at *
  generalize f.known = fn at *
  generalize g.kind = gk at *
  generalize g.day = gd at *
  generalize g.known = gn at *
  go_enter Tryz.func24, Tryz.ntmps24
  go_upto_region 1 with fail
  rename_i K5 hK5
  generalize hX1 : w.alloc _ = W1
  have hB1 : Below w.heap.size w W1 := hX1 ▸ (Below.refl _ _).alloc (Nat.le_refl _) _
  have hV1 := boxedV w W1 cs 45 (by rw [← hX1]; rfl)
  have hz1 : W1.heap.size = w.heap.size + 1 := by rw [← hX1]; show (w.heap.push _).size = _; rw [Array.size_push]
  clear hX1
  generalize hX2 : W1.alloc _ = W2
  have hB2 : Below W1.heap.size W1 W2 := hX2 ▸ (Below.refl _ _).alloc (Nat.le_refl _) _
  have hV2 := boxedV W1 W2 ds 45 (by rw [← hX2]; rfl)
  rw [hz1] at hV2
  have HBw := hide (thenB hB1 hB2); have HV1 := hide (hV1.keep hB2); have HV2 := hide hV2
  clear hX2 hB2 hV2 hz1 hV1 hB1
  obtain ⟨Y, hY⟩ : ∃ Y, Y = W2.drewN 1 := ⟨_, rfl⟩
  have HY : Hid (Y = W2.drewN 1) := hY
  have hS : Below W2.heap.size W2 Y := below_named HY
  clear hY
  refine held (S := Below W2.heap.size W2) Y HY (by kernel_rfl) ?_
  refine wpAnyH_take (i := 0) (v := ?_) rfl (by kernel_rfl) (by kernel_rfl) (by kernel_rfl) (fun _ _ _ h => h) (Or.inl ⟨by kernel_rfl, ?_⟩) (by assumption) ?_
  rotate_left
  · intro Wt hSt
    go_simp
    try with_reducible rfl
  try simp only [List.getElem_toArray, List.getElem_cons_zero, List.getElem_cons_succ, Act.put, List.setIfInBounds_toArray, List.set_cons_zero, List.set_cons_succ]
  refine wpAnyH_take (i := 1) (v := ?_) rfl (by kernel_rfl) (by kernel_rfl) (by kernel_rfl) (fun _ _ _ h => h) (Or.inl ⟨by kernel_rfl, ?_⟩) (by assumption) ?_
  rotate_left
  · intro Wt hSt
    have hct := (show Wt.cell? ⟨w.heap.size, 2, none⟩ = some (.int .i64 fn) from ((unhide HV1).keep hSt).cell (unhide HE2))
    go_simp
    try with_reducible rfl
  try simp only [List.getElem_toArray, List.getElem_cons_zero, List.getElem_cons_succ, Act.put, List.setIfInBounds_toArray, List.set_cons_zero, List.set_cons_succ]
  refine wpAnyH_take (i := 2) (v := ?_) rfl (by kernel_rfl) (by kernel_rfl) (by kernel_rfl) (fun _ _ _ h => h) (Or.inl ⟨by kernel_rfl, ?_⟩) (by assumption) ?_
  rotate_left
  · intro Wt hSt
    go_simp
    try with_reducible rfl
  try simp only [List.getElem_toArray, List.getElem_cons_zero, List.getElem_cons_succ, Act.put, List.setIfInBounds_toArray, List.set_cons_zero, List.set_cons_succ]
  refine wpAnyH_take (i := 3) (v := ?_) rfl (by kernel_rfl) (by kernel_rfl) (by kernel_rfl) (fun _ _ _ h => h) (Or.inl ⟨by kernel_rfl, ?_⟩) (by assumption) ?_
  rotate_left
  · intro Wt hSt
    have hct := (show Wt.cell? ⟨w.heap.size + 1, 2, none⟩ = some (.int .i64 gn) from ((unhide HV2).keep hSt).cell (unhide HD2))
    go_simp
    try with_reducible rfl
  try simp only [List.getElem_toArray, List.getElem_cons_zero, List.getElem_cons_succ, Act.put, List.setIfInBounds_toArray, List.set_cons_zero, List.set_cons_succ]
  refine wpAnyH_take (i := 5) (v := ?_) rfl (by kernel_rfl) (by kernel_rfl) (by kernel_rfl) (fun _ _ _ h => h) (Or.inl ⟨by kernel_rfl, ?_⟩) (by assumption) ?_
  rotate_left
  · intro Wt hSt
    go_simp
    try with_reducible rfl
  try simp only [List.getElem_toArray, List.getElem_cons_zero, List.getElem_cons_succ, Act.put, List.setIfInBounds_toArray, List.set_cons_zero, List.set_cons_succ]
  refine wpAnyH_take (i := 6) (v := ?_) rfl (by kernel_rfl) (by kernel_rfl) (by kernel_rfl) (fun _ _ _ h => h) (Or.inl ⟨by kernel_rfl, ?_⟩) (by assumption) ?_
  rotate_left
  · intro Wt hSt
    have hct := (show Wt.cell? ⟨w.heap.size, 1, none⟩ = some (.int .i64 fd) from ((unhide HV1).keep hSt).cell (unhide HE1))
    go_simp
    try with_reducible rfl
  try simp only [List.getElem_toArray, List.getElem_cons_zero, List.getElem_cons_succ, Act.put, List.setIfInBounds_toArray, List.set_cons_zero, List.set_cons_succ]
  refine wpAnyH_take (i := 7) (v := ?_) rfl (by kernel_rfl) (by kernel_rfl) (by kernel_rfl) (fun _ _ _ h => h) (Or.inl ⟨by kernel_rfl, ?_⟩) (by assumption) ?_
  rotate_left
  · intro Wt hSt
    go_simp
    try with_reducible rfl
  try simp only [List.getElem_toArray, List.getElem_cons_zero, List.getElem_cons_succ, Act.put, List.setIfInBounds_toArray, List.set_cons_zero, List.set_cons_succ]
  refine wpAnyH_take (i := 8) (v := ?_) rfl (by kernel_rfl) (by kernel_rfl) (by kernel_rfl) (fun _ _ _ h => h) (Or.inl ⟨by kernel_rfl, ?_⟩) (by assumption) ?_
  rotate_left
  · intro Wt hSt
    have hct := (show Wt.cell? ⟨w.heap.size + 1, 1, none⟩ = some (.int .i64 gd) from ((unhide HV2).keep hSt).cell (unhide HD1))
    go_simp
    try with_reducible rfl
  try simp only [List.getElem_toArray, List.getElem_cons_zero, List.getElem_cons_succ, Act.put, List.setIfInBounds_toArray, List.set_cons_zero, List.set_cons_succ]
  refine wpAnyH_take (i := 10) (v := ?_) rfl (by kernel_rfl) (by kernel_rfl) (by kernel_rfl) (fun _ _ _ h => h) (Or.inl ⟨by kernel_rfl, ?_⟩) (by assumption) ?_
  rotate_left
  · intro Wt hSt
    go_simp
    try with_reducible rfl
  try simp only [List.getElem_toArray, List.getElem_cons_zero, List.getElem_cons_succ, Act.put, List.setIfInBounds_toArray, List.set_cons_zero, List.set_cons_succ]
  refine wpAnyH_take (i := 11) (v := ?_) rfl (by kernel_rfl) (by kernel_rfl) (by kernel_rfl) (fun _ _ _ h => h) (Or.inl ⟨by kernel_rfl, ?_⟩) (by assumption) ?_
  rotate_left
  · intro Wt hSt
    have hct := (show Wt.cell? ⟨w.heap.size, 0, none⟩ = some (.int .i64 fk) from ((unhide HV1).keep hSt).cell (unhide HE0))
    go_simp
    try with_reducible rfl
  try simp only [List.getElem_toArray, List.getElem_cons_zero, List.getElem_cons_succ, Act.put, List.setIfInBounds_toArray, List.set_cons_zero, List.set_cons_succ]
  refine wpAnyH_take (i := 12) (v := ?_) rfl (by kernel_rfl) (by kernel_rfl) (by kernel_rfl) (fun _ _ _ h => h) (Or.inl ⟨by kernel_rfl, ?_⟩) (by assumption) ?_
  rotate_left
  · intro Wt hSt
    go_simp
    try with_reducible rfl
  try simp only [List.getElem_toArray, List.getElem_cons_zero, List.getElem_cons_succ, Act.put, List.setIfInBounds_toArray, List.set_cons_zero, List.set_cons_succ]
  refine wpAnyH_take (i := 13) (v := ?_) rfl (by kernel_rfl) (by kernel_rfl) (by kernel_rfl) (fun _ _ _ h => h) (Or.inl ⟨by kernel_rfl, ?_⟩) (by assumption) ?_
  rotate_left
  · intro Wt hSt
    have hct := (show Wt.cell? ⟨w.heap.size + 1, 0, none⟩ = some (.int .i64 gk) from ((unhide HV2).keep hSt).cell (unhide HD0))
    go_simp
    try with_reducible rfl
  try simp only [List.getElem_toArray, List.getElem_cons_zero, List.getElem_cons_succ, Act.put, List.setIfInBounds_toArray, List.set_cons_zero, List.set_cons_succ]
  refine wpAnyH_one 4 _ rfl (by kernel_rfl) (by kernel_rfl) ?_
  intro Kt hK
  go_simp
  refine (cmp_any fn gn Y).mono ?_; rintro x Y1 ⟨rfl, rfl⟩
  dsimp only
  refine hK _ _ hS ?_
  clear hK Kt
  try simp only [List.getElem_toArray, List.getElem_cons_zero, List.getElem_cons_succ, Act.put, List.setIfInBounds_toArray, List.set_cons_zero, List.set_cons_succ]
  refine wpAnyH_one 9 _ rfl (by kernel_rfl) (by kernel_rfl) ?_
  intro Kt hK
  go_simp
  refine (cmp_any fd gd Y1).mono ?_; rintro x Y2 ⟨rfl, rfl⟩
  dsimp only
  refine hK _ _ hS ?_
  clear hK Kt
  try simp only [List.getElem_toArray, List.getElem_cons_zero, List.getElem_cons_succ, Act.put, List.setIfInBounds_toArray, List.set_cons_zero, List.set_cons_succ]
  refine wpAnyH_one 14 _ rfl (by kernel_rfl) (by kernel_rfl) ?_
  intro Kt hK
  go_simp
  refine (cmp_any fk gk Y2).mono ?_; rintro x Y3 ⟨rfl, rfl⟩
  dsimp only
  refine hK _ _ hS ?_
  clear hK Kt
  try simp only [List.getElem_toArray, List.getElem_cons_zero, List.getElem_cons_succ, Act.put, List.setIfInBounds_toArray, List.set_cons_zero, List.set_cons_succ]
  refine wpAnyH_chainOf [15, 16, 17] _ _ _ (by kernel_rfl) (by kernel_rfl) ?_
  simp only [List.filterMap_cons, List.filterMap_nil, List.getElem?_toArray, List.getElem?_cons_zero, List.getElem?_cons_succ]
  generalize cmpI fn gn = c1 at *
  generalize cmpI fd gd = c2 at *
  generalize cmpI fk gk = c3 at *
  refine wpChain_step rfl fun Kt hKt => ?_
  go_simp
  generalize hX4 : Y3.alloc _ = Y4
  have hB4 : Below Y3.heap.size Y3 Y4 := hX4 ▸ (Below.refl _ _).alloc (Nat.le_refl _) _
  have hv4 := boxedV Y3 Y4 [.int .i64 c1, .int .i64 c2, .int .i64 c3] 3 (by rw [← hX4]; rfl)
  have hS4 := thenB hS hB4
  have hit : It Y4 (some ⟨Y3.heap.size, 0, none⟩) [c1, c2, c3] := ⟨fun _ => ⟨Y3.heap.size, 0, rfl, fun j hj => by
    match j, hj with
    | 0, _ => exact hv4.cell rfl
    | 1, _ => exact hv4.cell rfl
    | 2, _ => exact hv4.cell rfl⟩⟩
  have ho : Calls Tryz.prog 50 #[.slice (some ⟨Y3.heap.size, 0, none⟩) 3 3] Y4 fun e w' => e = .returned (.int .i64 (orV [c1, c2, c3])) ∧ w' = Y4 := or_any _ 3 [c1, c2, c3] Y4 hit (by simp)
  rw [← unhide HZ] at ho
  refine hKt _ _ hS4 ?_
  clear hKt Kt hX4
  try simp only [List.getElem_toArray, List.getElem_cons_zero, List.getElem_cons_succ, Act.put, List.setIfInBounds_toArray, List.set_cons_zero, List.set_cons_succ]
  refine wpChain_step rfl fun Kt hKt => ?_
  go_simp
  refine ho.mono ?_; rintro x Y5 ⟨rfl, rfl⟩
  dsimp only
  refine hKt _ _ hS4 ?_
  clear hKt Kt
  try simp only [List.getElem_toArray, List.getElem_cons_zero, List.getElem_cons_succ, Act.put, List.setIfInBounds_toArray, List.set_cons_zero, List.set_cons_succ]
  refine wpChain_step rfl fun Kt hKt => ?_
  go_simp
  refine hKt _ _ hS4 ?_
  clear hKt Kt
  refine wpChain_nil ?_
  refine hK5 _ _ ?_
  clear hK5 K5
  have HB5 := hide (thenB (unhide HBw) hS4); have HW1 := hide ((unhide HV1).keep hS4); have HW2 := hide ((unhide HV2).keep hS4)
  clear hS4 ho hit hv4 hB4 hS HV1 HV2 HBw HY
  by_cases hz0 : z = 0
  · subst hz0
    go_upto_region 2 with fail
    refine wp_region_lit ?_
    refine wpList_plain rfl fun Kt hKt => ?_
    go_simp
    refine hKt _ _ ?_
    clear hKt Kt
    try simp only [List.getElem_toArray, List.getElem_cons_zero, List.getElem_cons_succ, Act.put, List.setIfInBounds_toArray, List.set_cons_zero, List.set_cons_succ]
    refine wpList_plain rfl fun Kt hKt => ?_
    go_simp
    refine hKt _ _ ?_
    clear hKt Kt
    try simp only [List.getElem_toArray, List.getElem_cons_zero, List.getElem_cons_succ, Act.put, List.setIfInBounds_toArray, List.set_cons_zero, List.set_cons_succ]
    refine wpList_plain rfl fun Kt hKt => ?_
    go_simp
    refine hKt _ _ ?_
    clear hKt Kt
    try simp only [List.getElem_toArray, List.getElem_cons_zero, List.getElem_cons_succ, Act.put, List.setIfInBounds_toArray, List.set_cons_zero, List.set_cons_succ]
    refine wpList_vgload (by kernel_rfl) 45 (.tmp 2) rfl w.heap.size 0 rfl _ Tryz.underlying45 rfl cs (by rw [unhide HCS, fC_length _ _ (unhide HF)]; exact infoFc) (unhide HW1).range ?_
    try simp only [List.getElem_toArray, List.getElem_cons_zero, List.getElem_cons_succ, Act.put, List.setIfInBounds_toArray, List.set_cons_zero, List.set_cons_succ]
    refine wpList_vgload (by kernel_rfl) 45 (.tmp 3) rfl (w.heap.size + 1) 0 rfl _ Tryz.underlying45 rfl ds (by rw [unhide HDS, fC_length _ _ (unhide HGG)]; exact infoFc) (unhide HW2).range ?_
    try simp only [List.getElem_toArray, List.getElem_cons_zero, List.getElem_cons_succ, Act.put, List.setIfInBounds_toArray, List.set_cons_zero, List.set_cons_succ]
    refine wpList_wanted (by kernel_rfl) fun Kt hKt => ?_
    go_simp
    refine ((unhide HS0) Y5 (unhide HB5)).mono ?_; rintro x Y6 ⟨rfl, hG⟩
    dsimp only
    refine hKt _ _ ?_
    clear hKt Kt
    try simp only [List.getElem_toArray, List.getElem_cons_zero, List.getElem_cons_succ, Act.put, List.setIfInBounds_toArray, List.set_cons_zero, List.set_cons_succ]
    have HB6 := hide (thenB (unhide HB5) hG); have HW1 := hide ((unhide HW1).keep hG); have HW2 := hide ((unhide HW2).keep hG)
    clear hG
    cases sm
    rotate_left
    · have e : R = 0 := by rw [unhide HCF]; simp
      subst e
      go_wp2_with fail
      go_ret
      exact ⟨rfl, unhide HB6⟩
    · have e : R = cb := by rw [unhide HCF]; simp
      subst e
      refine wpList_plain rfl fun Kt hKt => ?_
      go_simp
      refine hKt _ _ ?_
      clear hKt Kt
      try simp only [List.getElem_toArray, List.getElem_cons_zero, List.getElem_cons_succ, Act.put, List.setIfInBounds_toArray, List.set_cons_zero, List.set_cons_succ]
      refine wpList_nil ?_
      go_upto_region 4 with fail
      obtain ⟨V, hV⟩ : ∃ V, V = Y6.drewN 1 := ⟨_, rfl⟩
      have HVV : Hid (V = Y6.drewN 1) := hV
      have hS0 : Below Y6.heap.size Y6 V := below_named HVV
      have hS : VsAt V w.heap.size 45 cs ∧ VsAt V (w.heap.size + 1) 45 ds := ⟨(unhide HW1).keep hS0, (unhide HW2).keep hS0⟩
      have HB := hide (thenB (unhide HB6) hS0)
      clear hS0 hV HW1 HW2 HB6 HB5
      refine held (S := fun V => VsAt V w.heap.size 45 cs ∧ VsAt V (w.heap.size + 1) 45 ds) V HVV (by kernel_rfl) ?_
      refine wpAnyH_take (i := 0) (v := .agg cs.toArray) rfl (by kernel_rfl) (by kernel_rfl) (by kernel_rfl) (fun _ _ _ h => h) (Or.inl ⟨by kernel_rfl, ?_⟩) (by assumption) ?_
      · intro Wt hSt
        exact run_load_op 45 (.tmp 2) rfl w.heap.size 0 rfl cs _ hSt.1.range Tryz.underlying45 rfl (by rw [unhide HCS, fC_length _ _ (unhide HF)]; exact infoFc)
      try simp only [List.getElem_toArray, List.getElem_cons_zero, List.getElem_cons_succ, Act.put, List.setIfInBounds_toArray, List.set_cons_zero, List.set_cons_succ]
      refine wpAnyH_take (i := 2) (v := .agg ds.toArray) rfl (by kernel_rfl) (by kernel_rfl) (by kernel_rfl) (fun _ _ _ h => h) (Or.inl ⟨by kernel_rfl, ?_⟩) (by assumption) ?_
      · intro Wt hSt
        exact run_load_op 45 (.tmp 3) rfl (w.heap.size + 1) 0 rfl ds _ hSt.2.range Tryz.underlying45 rfl (by rw [unhide HDS, fC_length _ _ (unhide HGG)]; exact infoFc)
      try simp only [List.getElem_toArray, List.getElem_cons_zero, List.getElem_cons_succ, Act.put, List.setIfInBounds_toArray, List.set_cons_zero, List.set_cons_succ]
      refine wpAnyH_one 1 _ rfl (by kernel_rfl) (by kernel_rfl) ?_
      skip
      intro Kt hK
      go_simp
      refine ((unhide HE1X) V (unhide HB)).mono ?_; rintro e V1 ⟨b1, rfl, hb1, hG⟩
      dsimp only
      replace hS := And.intro (hS.1.keep hG) (hS.2.keep hG)
      replace HB := hide (thenB (unhide HB) hG)
      refine hK _ _ hS ?_
      clear hK Kt hG
      try simp only [List.getElem_toArray, List.getElem_cons_zero, List.getElem_cons_succ, Act.put, List.setIfInBounds_toArray, List.set_cons_zero, List.set_cons_succ]
      refine wpAnyH_one 3 _ rfl (by kernel_rfl) (by kernel_rfl) ?_
      skip
      intro Kt hK
      go_simp
      refine ((unhide HE2X) V1 (unhide HB)).mono ?_; rintro e V2 ⟨b2, rfl, hb2, hG⟩
      dsimp only
      replace hS := And.intro (hS.1.keep hG) (hS.2.keep hG)
      replace HB := hide (thenB (unhide HB) hG)
      have HC := hide (bcompare_any b1 b2 l1 l2 V2 (hb1.later hG) hb2)
      refine hK _ _ hS ?_
      clear hK Kt hG hb1 hb2
      try simp only [List.getElem_toArray, List.getElem_cons_zero, List.getElem_cons_succ, Act.put, List.setIfInBounds_toArray, List.set_cons_zero, List.set_cons_succ]
      refine wpAnyH_one 4 _ rfl (by kernel_rfl) (by kernel_rfl) ?_
      skip
      intro Kt hK
      go_simp
      refine (unhide HC).mono ?_; rintro e V3 ⟨rfl, rfl⟩
      dsimp only
      rw [← unhide HCB]
      refine hK _ _ hS ?_
      clear hK Kt
      try simp only [List.getElem_toArray, List.getElem_cons_zero, List.getElem_cons_succ, Act.put, List.setIfInBounds_toArray, List.set_cons_zero, List.set_cons_succ]
      refine wpAnyH_take (i := 5) (v := ?_) rfl (by kernel_rfl) (by kernel_rfl) (by kernel_rfl) (fun _ _ _ h => h) (Or.inl ⟨by kernel_rfl, ?_⟩) (by assumption) ?_
      rotate_left
      · intro Wt hSt
        go_simp
        try with_reducible rfl
      try simp only [List.getElem_toArray, List.getElem_cons_zero, List.getElem_cons_succ, Act.put, List.setIfInBounds_toArray, List.set_cons_zero, List.set_cons_succ]
      refine wpAnyH_chainOf [] _ _ _ (by kernel_rfl) (by kernel_rfl) ?_
      refine wpChain_nil ?_
      go_wp2_with fail
      go_ret
      exact ⟨rfl, unhide HB⟩
  · have hzn : (z != 0) = true := by simpa using hz0
    have hze : (z == 0) = false := by simpa using hz0
    have e : R = z := by rw [unhide HCF, if_pos hz0]
    subst e
    clear HZ HCF
    go_wp2_with fail
    go_ret
    exact ⟨rfl, unhide HB5⟩
theorem compare_any (f : Fc) (a : Ad) (g : Fc) (b : Ad) (w : World) (hf : FAt w f a) (hg : FAt w g b) (hwf : FWf f) (hwg : FWf g) (hlf : f.e.rules.size ≤ 1000000) (hlg : g.e.rules.size ≤ 1000000) (hE : Env w) (hgt : gTop ≤ w.heap.size) :
    Calls Tryz.prog 24 #[.agg (fC f a).toArray, .agg (fC g b).toArray] w fun e w' => e = .returned (.int .i64 (cmpF f g)) ∧ Below w.heap.size w w' :=
  compare_core f a g b w hf.void hg.void (fun W hW => same_any f g a b W (hf.keep hW) (hg.keep hW)) (fun W hW => encodingOf_any f a W (hf.keep hW) hwf hlf (hE.to hgt hW) (Nat.le_trans hgt hW.size)) (fun W hW => encodingOf_any g b W (hg.keep hW) hwg hlg (hE.to hgt hW) (Nat.le_trans hgt hW.size))
end Go.Proofs.YtdmaopfaeigelaaGreatDoor
