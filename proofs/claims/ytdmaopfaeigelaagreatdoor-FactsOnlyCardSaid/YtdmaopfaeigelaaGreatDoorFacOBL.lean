/- FactsOnly: the walk. FactsOnly: every input. -/
import Derived.Test.YtdmaopfaeigelaaGreatDoorFacOSN
import Derived.Test.YtdmaopfaeigelaaGreatDoorFacSAD
import Derived.Great.BuildSlice
namespace Go.Proofs.YtdmaopfaeigelaaGreatDoor
set_option linter.unusedSimpArgs false
set_option linter.unusedVariables false
set_option maxRecDepth 100000
open Go.RowKit

theorem few_any (b c : Nat) (L : List (Fc × Ad)) (w : World) (h : VsAt w b 45 (rowF L)) (hv : ∀ p ∈ L, p.1.void.length = 32) (hl : L.length ≤ 12) (hc : L.length ≤ c) :
    Calls Tryz.prog 12 #[.slice (some ⟨b, 0, none⟩) L.length c] w fun e w' => e = .returned (.bool (L.all fun p => smallF p.1)) ∧ Below w.heap.size w w' := by
  have h1 := rfew_any b c L 12 w h hv (by omega) hc
  rw [decide_eq_true (by omega : (L.length : Int) ≤ 12), Bool.and_true] at h1
  obtain ⟨n, hn⟩ : ∃ n, n = L.length := ⟨_, rfl⟩
  obtain ⟨z, hz⟩ : ∃ z, z = L.all fun p => smallF p.1 := ⟨_, rfl⟩
  rw [← hn, ← hz] at h1
  rw [← hn, ← hz]
  have H1 := hide h1
  clear h1 hn hz hl hc h hv
  go_enter Tryz.func12, Tryz.ntmps12
  go_wp2_with fail
  refine (unhide H1).mono ?_; rintro e w1 ⟨rfl, hb⟩
  go_wp2_with fail
  go_ret
  exact ⟨rfl, hb⟩
def LawOk (w : World) (e : Ending) (w' : World) : Prop := e = .returned (.bool true) ∧ Below w.heap.size w w'
theorem wpList_buildRow {P : Program} {ops : Array Oper} {rest : List Oper} {o : Oper} {a : Act} {w : World} {Q : Exit → Act → World → Prop} (hg : o.guard = none) (t e : TypeId) (len : Nat) (parts : Array (Nat × Operand)) (ho : o.op = .buildSlice t len parts)
    (vs : List Value) (s : Nat) (hs : 0 < s) (hu : P.underlying t = some (.slice e)) (hsz : (P.info? e).map (·.size) = some s) (hz : ((P.info? e).bind (·.zero)).isSome = true) (hlen : len = vs.length) (hpos : 0 < len) (hsmall : len * s ≤ 2 ^ 24)
    (hparts : (parts.map fun (i, x) => (i, a.eval x)).toList = (vs.zipIdx 0).map fun x => (x.2, x.1)) (h1 : ∀ v ∈ vs, v.cells.size = s)
    (h : wpList P ops Q rest (a.put o.dst (.slice (some ⟨w.heap.size, 0, none⟩) len len)) (w.alloc (.cells (vs.flatMap fun v => v.cells.toList).toArray e))) : wpList P ops Q (o :: rest) a w := by
  cases hie : P.info? e with
  | none => simp [hie] at hsz
  | some ie =>
    simp only [hie, Option.map_some, Option.some.injEq, Option.bind_some] at hsz hz
    obtain ⟨z, hzz⟩ := Option.isSome_iff_exists.1 hz
    refine wpList_buildSlice hg t e len parts ho _ ie z hu hie hzz (by rw [hsz]; omega) (by rw [hsz]; exact Nat.ne_of_gt (Nat.mul_pos hpos hs)) ?_ h
    rw [hparts, hsz]
    exact Great.fill_whole hs vs _ h1 (by simp [hlen])
theorem part_range {w : World} {b : Nat} {t : TypeId} {ds : List Value} (h : VsAt w b t ds) (off n : Nat) : w.rangeAt b off ((ds.drop off).take n) := h.mid off _ fun j v hj => by
  rw [List.getElem?_take] at hj
  split at hj
  · rw [List.getElem?_drop] at hj; exact hj
  · cases hj
theorem part_one {ds : List Value} (h : ∀ v ∈ ds, v.oneCell' = true) (off n : Nat) : ∀ v ∈ (ds.drop off).take n, v.oneCell' = true := fun v hv => h v (List.mem_of_mem_drop (List.mem_of_mem_take hv))
abbrev Chk (w : World) (cs : List Value) (z : Int) : Prop := ∀ W, Below w.heap.size w W → Calls Tryz.prog 13 #[.agg cs.toArray] W fun x w' => x = .returned (.int .i64 z) ∧ Below W.heap.size W w'
set_option maxHeartbeats 16000000 in
theorem only_core (cs ds : List Value) (fk gk dy kn : Int) (sm okf okg : Bool) (w : World) (hlc : cs.length = 82) (hld : ds.length = 82) (hoc : ∀ v ∈ cs, v.oneCell' = true) (hod : ∀ v ∈ ds, v.oneCell' = true)
    (hc0 : cs[0]? = some (.int .i64 fk)) (hd0 : ds[0]? = some (.int .i64 gk))
    (hdy : 0 ≤ dy ∧ dy ≤ 4294967295) (hkn : 0 ≤ kn ∧ kn ≤ 4294967295)
    (hsane : ∀ W, Below w.heap.size w W → Calls Tryz.prog 11 #[] W fun x w' => x = .returned (.bool true) ∧ Below W.heap.size W w')
    (hfew : ∀ W bb, VsAt W bb 45 (cs ++ (ds ++ [])) → Calls Tryz.prog 12 #[.slice (some ⟨bb, 0, none⟩) 2 2] W fun x w' => x = .returned (.bool sm) ∧ Below W.heap.size W w')
    (hcf : sm = true → Chk w cs (if okf then 0 else 70)) (hcg : sm = true → Chk w ds (if okg then 0 else 70))
    (hcx : sm = true → okf = true → ∀ d k : Int, inR d 0 1048576 = true → inR k 0 1048576 = true → Chk w ((cs.set 1 (.int .i64 d)).set 2 (.int .i64 k)) 0)
    (hy1 : sm = true → okf = true → okg = true → fk ≠ gk → gk = 1 → Chk w (spliceV cs ((ds.drop 3).take 4) 3) 70)
    (hy3 : sm = true → okf = true → okg = true → fk ≠ gk → gk = 3 → Chk w (spliceV cs ((ds.drop 12).take 13) 12) 70)
    (hy2 : sm = true → okf = true → okg = true → fk ≠ gk → gk = 2 → Chk w (spliceV cs ((ds.drop 7).take 5) 7) 70)
    (hy4 : sm = true → okf = true → okg = true → fk ≠ gk → gk = 4 → Chk w (spliceV cs ((ds.drop 25).take 17) 25) 70)
    (hy5 : sm = true → okf = true → okg = true → fk ≠ gk → gk = 5 → Chk w (spliceV cs ((ds.drop 42).take 3) 42) 70)
    (hy7 : sm = true → okf = true → okg = true → fk ≠ gk → gk = 7 → Chk w (spliceV cs ((ds.drop 47).take 3) 47) 70)
    : Calls Tryz.prog 10 #[.agg cs.toArray, .agg ds.toArray, .int .u32 dy, .int .u32 kn] w (LawOk w) := by
  have HSANE := hide hsane; have HFEW := hide hfew; have HLC := hide hlc; have HLD := hide hld; have HOC := hide hoc; have HOD := hide hod
  have HC0 := hide hc0; have HD0 := hide hd0; have HCF := hide hcf; have HCG := hide hcg; have HCX := hide hcx
  have HY1 := hide hy1
  have HY3 := hide hy3
  have HY2 := hide hy2
  have HY4 := hide hy4
  have HY5 := hide hy5
  have HY7 := hide hy7
  clear hsane hfew hlc hld hoc hod hc0 hd0 hcf hcg hcx hy1 hy3 hy2 hy4 hy5 hy7
  go_enter Tryz.func10, Tryz.ntmps10
  go_upto_region 1 with fail
  generalize hX1 : w.alloc _ = W1
  have hB1 : Below w.heap.size w W1 := hX1 ▸ (Below.refl _ _).alloc (Nat.le_refl _) _
  have hV1 := boxedV w W1 cs 45 (by rw [← hX1]; rfl)
  have hz1 : W1.heap.size = w.heap.size + 1 := by rw [← hX1]; show (w.heap.push _).size = _; rw [Array.size_push]
  clear hX1
  generalize hX2 : W1.alloc _ = W2
  have hB2 : Below W1.heap.size W1 W2 := hX2 ▸ (Below.refl _ _).alloc (Nat.le_refl _) _
  have hV2 := boxedV W1 W2 ds 45 (by rw [← hX2]; rfl)
  rw [hz1] at hV2
  have HB2 := hide (thenB hB1 hB2); have HV1 := hide (hV1.keep hB2); have HV2 := hide hV2
  clear hX2 hB2 hV2 hz1 hV1 hB1
  go_wp2_with fail
  refine ((unhide HSANE) W2 (unhide HB2)).mono ?_; rintro e W3 ⟨rfl, hb⟩
  have HB3 := hide (thenB (unhide HB2) hb); have HV13 := hide ((unhide HV1).keep hb); have HV23 := hide ((unhide HV2).keep hb)
  clear hb HB2 HV1 HV2
  go_upto_region 3 with fail
  refine wp_region_lit ?_
  refine wpList_vload rfl 45 (.tmp 4) rfl w.heap.size 0 rfl _ Tryz.underlying45 rfl cs (by rw [unhide HLC]; exact infoFc) (unhide HV13).range ?_
  try simp only [List.getElem_toArray, List.getElem_cons_zero, List.getElem_cons_succ, Act.put, List.setIfInBounds_toArray, List.set_cons_zero, List.set_cons_succ]
  refine wpList_vload rfl 45 (.tmp 5) rfl (w.heap.size + 1) 0 rfl _ Tryz.underlying45 rfl ds (by rw [unhide HLD]; exact infoFc) (unhide HV23).range ?_
  try simp only [List.getElem_toArray, List.getElem_cons_zero, List.getElem_cons_succ, Act.put, List.setIfInBounds_toArray, List.set_cons_zero, List.set_cons_succ]
  refine wpList_buildRow rfl 78 45 2 _ rfl [.agg cs.toArray, .agg ds.toArray] 82 (by decide) Tryz.underlying78 infoFc (by kernel_rfl) rfl (by decide) (by decide) (by rw [Array.toList_map]; rfl) (by intro v hv; simp at hv; rcases hv with rfl | rfl <;> simp [Value.cells, unhide HLC, unhide HLD]) ?_
  try simp only [List.getElem_toArray, List.getElem_cons_zero, List.getElem_cons_succ, Act.put, List.setIfInBounds_toArray, List.set_cons_zero, List.set_cons_succ]
  generalize hX4 : W3.alloc _ = W4
  have hB4 : Below W3.heap.size W3 W4 := hX4 ▸ (Below.refl _ _).alloc (Nat.le_refl _) _
  have hv4 := boxedV W3 W4 (cs ++ (ds ++ [])) 45 (by rw [← hX4]; show W3.heap.push _ = _; simp [Value.cells])
  have HFW := hide ((unhide HFEW) W4 W3.heap.size hv4)
  have HB4 := hide (thenB (unhide HB3) hB4); have HV14 := hide ((unhide HV13).keep hB4); have HV24 := hide ((unhide HV23).keep hB4)
  clear hX4 hB4 hv4 HB3 HV13 HV23 HFEW HSANE
  refine wpList_wanted (by kernel_rfl) fun Kt hKt => ?_
  go_simp
  refine (unhide HFW).mono ?_; rintro x W5 ⟨rfl, hb⟩
  dsimp only
  refine hKt _ _ ?_
  clear hKt Kt
  try simp only [List.getElem_toArray, List.getElem_cons_zero, List.getElem_cons_succ, Act.put, List.setIfInBounds_toArray, List.set_cons_zero, List.set_cons_succ]
  have HB5 := hide (thenB (unhide HB4) hb); have HV15 := hide ((unhide HV14).keep hb); have HV25 := hide ((unhide HV24).keep hb)
  clear hb HB4 HV14 HV24 HFW
  cases sm
  case false =>
    go_wp2_with fail
    go_ret
    exact ⟨rfl, unhide HB5⟩
  refine wpList_plain rfl fun Kt hKt => ?_
  go_simp
  refine hKt _ _ ?_
  clear hKt Kt
  try simp only [List.getElem_toArray, List.getElem_cons_zero, List.getElem_cons_succ, Act.put, List.setIfInBounds_toArray, List.set_cons_zero, List.set_cons_succ]
  refine wpList_plain rfl fun Kt hKt => ?_
  go_simp
  refine hKt _ _ ?_
  clear hKt Kt
  try simp only [List.getElem_toArray, List.getElem_cons_zero, List.getElem_cons_succ, Act.put, List.setIfInBounds_toArray, List.set_cons_zero, List.set_cons_succ]
  refine wpList_vgload (by kernel_rfl) 45 (.tmp 4) rfl w.heap.size 0 rfl _ Tryz.underlying45 rfl cs (by rw [unhide HLC]; exact infoFc) (unhide HV15).range ?_
  try simp only [List.getElem_toArray, List.getElem_cons_zero, List.getElem_cons_succ, Act.put, List.setIfInBounds_toArray, List.set_cons_zero, List.set_cons_succ]
  refine wpList_wanted (by kernel_rfl) fun Kt hKt => ?_
  go_simp
  refine ((unhide HCF) rfl W5 (unhide HB5)).mono ?_; rintro x W6 ⟨rfl, hb⟩
  dsimp only
  refine hKt _ _ ?_
  clear hKt Kt
  try simp only [List.getElem_toArray, List.getElem_cons_zero, List.getElem_cons_succ, Act.put, List.setIfInBounds_toArray, List.set_cons_zero, List.set_cons_succ]
  have HB6 := hide (thenB (unhide HB5) hb); have HV16 := hide ((unhide HV15).keep hb); have HV26 := hide ((unhide HV25).keep hb)
  clear hb HB5 HV15 HV25
  cases okf
  case false =>
    go_wp2_with fail
    go_ret
    exact ⟨rfl, unhide HB6⟩
  refine wpList_wanted (by kernel_rfl) fun Kt hKt => ?_
  go_simp
  refine hKt _ _ ?_
  clear hKt Kt
  try simp only [List.getElem_toArray, List.getElem_cons_zero, List.getElem_cons_succ, Act.put, List.setIfInBounds_toArray, List.set_cons_zero, List.set_cons_succ]
  refine wpList_plain rfl fun Kt hKt => ?_
  go_simp
  refine hKt _ _ ?_
  clear hKt Kt
  try simp only [List.getElem_toArray, List.getElem_cons_zero, List.getElem_cons_succ, Act.put, List.setIfInBounds_toArray, List.set_cons_zero, List.set_cons_succ]
  refine wpList_plain rfl fun Kt hKt => ?_
  go_simp
  refine hKt _ _ ?_
  clear hKt Kt
  try simp only [List.getElem_toArray, List.getElem_cons_zero, List.getElem_cons_succ, Act.put, List.setIfInBounds_toArray, List.set_cons_zero, List.set_cons_succ]
  refine wpList_vgload (by kernel_rfl) 45 (.tmp 5) rfl (w.heap.size + 1) 0 rfl _ Tryz.underlying45 rfl ds (by rw [unhide HLD]; exact infoFc) (unhide HV26).range ?_
  try simp only [List.getElem_toArray, List.getElem_cons_zero, List.getElem_cons_succ, Act.put, List.setIfInBounds_toArray, List.set_cons_zero, List.set_cons_succ]
  refine wpList_wanted (by kernel_rfl) fun Kt hKt => ?_
  go_simp
  refine ((unhide HCG) rfl W6 (unhide HB6)).mono ?_; rintro x W7 ⟨rfl, hb⟩
  dsimp only
  refine hKt _ _ ?_
  clear hKt Kt
  try simp only [List.getElem_toArray, List.getElem_cons_zero, List.getElem_cons_succ, Act.put, List.setIfInBounds_toArray, List.set_cons_zero, List.set_cons_succ]
  have HB7 := hide (thenB (unhide HB6) hb); have HV17 := hide ((unhide HV16).keep hb); have HV27 := hide ((unhide HV26).keep hb)
  clear hb HB6 HV16 HV26
  cases okg
  case false =>
    go_wp2_with fail
    go_ret
    exact ⟨rfl, unhide HB7⟩
  go_upto_region 5 with fail
  refine wp_region_lit ?_
  refine wpList_vload rfl 45 (.tmp 4) rfl w.heap.size 0 rfl _ Tryz.underlying45 rfl cs (by rw [unhide HLC]; exact infoFc) (unhide HV17).range ?_
  try simp only [List.getElem_toArray, List.getElem_cons_zero, List.getElem_cons_succ, Act.put, List.setIfInBounds_toArray, List.set_cons_zero, List.set_cons_succ]
  refine wpList_wanted (by kernel_rfl) fun Kt hKt => ?_
  go_simp
  refine hKt _ _ ?_
  clear hKt Kt
  try simp only [List.getElem_toArray, List.getElem_cons_zero, List.getElem_cons_succ, Act.put, List.setIfInBounds_toArray, List.set_cons_zero, List.set_cons_succ]
  generalize hX8 : W7.alloc _ = W8
  have hB8 : Below W7.heap.size W7 W8 := hX8 ▸ (Below.refl _ _).alloc (Nat.le_refl _) _
  have HZ8 := hide (boxedV W7 W8 (fC f0 a0) 45 (by rw [← hX8]; rfl))
  have hle7 := (unhide HB7).size
  clear hX8
  refine wpList_vput rfl 45 (.tmp 9) (.tmp 28) rfl W7.heap.size 0 rfl cs rfl (by rw [unhide HLC]; exact infoFc) (unhide HOC) 45 _ (unhide HZ8) (by rw [unhide HLC, fC_length _ _ rfl]; exact Nat.le_refl _) ?_
  intro W9 HV9 HG9
  rw [spliceV_all _ _ (by rw [unhide HLC, fC_length _ _ rfl])] at HV9
  have hb9 : Below W7.heap.size W7 W9 := hB8.grown (unhide HG9) hB8.size (fun i e => by injection e with e; omega)
  have HB9 := hide (thenB (unhide HB7) hb9); have HV19 := hide ((unhide HV17).keep hb9); have HV29 := hide ((unhide HV27).keep hb9)
  have HLT := hide (lt_of_block (unhide HV27)); have HLE := hide hle7
  clear HG9 HZ8 hB8 hb9 HB7 HV17 HV27 hle7
  have hlc' := unhide HLC
  have hp1 : W9.cell? ⟨W7.heap.size, 1, none⟩ = some (cs[1]'(by omega)) := (unhide HV9).cell (List.getElem?_eq_getElem (by omega))
  have hp2 : W9.cell? ⟨W7.heap.size, 2, none⟩ = some (cs[2]'(by omega)) := (unhide HV9).cell (List.getElem?_eq_getElem (by omega))
  have hq1 := (unhide HV9).free 1
  have hq2 := (unhide HV9).free 2
  go_upto_region 7 with fail
  clear hp1 hp2 hq1 hq2 hlc'
  have hdr : inR (dy % 1048577) 0 1048576 = true := by unfold inR; rw [decide_eq_true (by omega), decide_eq_true (by omega)]; rfl
  have hkr : inR (kn % 1048577) 0 1048576 = true := by unfold inR; rw [decide_eq_true (by omega), decide_eq_true (by omega)]; rfl
  have hchx := (unhide HCX) rfl rfl _ _ hdr hkr
  have hv10 := ((unhide HV9).set 1 (.int .i64 (dy % 1048577))).set 2 (.int .i64 (kn % 1048577))
  have hg10 := (fgrownSetCells W7.heap.size [.int .i64 (dy % 1048577)] 1 W9).trans (fgrownSetCells W7.heap.size [.int .i64 (kn % 1048577)] 2 _)
  change W9.grownBy ((W9.setCell ⟨W7.heap.size, 1, none⟩ (.int .i64 (dy % 1048577))).setCell ⟨W7.heap.size, 2, none⟩ (.int .i64 (kn % 1048577))) (some W7.heap.size) at hg10
  generalize (W9.setCell ⟨W7.heap.size, 1, none⟩ (.int .i64 (dy % 1048577))).setCell ⟨W7.heap.size, 2, none⟩ (.int .i64 (kn % 1048577)) = W10 at hv10 hg10 ⊢
  have hxl : ((cs.set 1 (.int .i64 (dy % 1048577))).set 2 (.int .i64 (kn % 1048577))).length = 82 := by rw [List.length_set, List.length_set]; exact unhide HLC
  generalize (cs.set 1 (.int .i64 (dy % 1048577))).set 2 (.int .i64 (kn % 1048577)) = xs at hv10 hchx hxl
  generalize dy % 1048577 = d'
  generalize kn % 1048577 = k'
  have HV10 := hide hv10; have HXL := hide hxl; have HCHX := hide hchx
  have HB10 := hide ((unhide HB9).grown hg10 (unhide HB9).size (fun i e => by injection e with e; have := unhide HLE; omega))
  have HV110 := hide ((unhide HV19).grown hg10 (fun e => by injection e with e; have := unhide HLT; omega))
  have HV210 := hide ((unhide HV29).grown hg10 (fun e => by injection e with e; have := unhide HLT; omega))
  clear hv10 hg10 hxl hchx hdr hkr HB9 HV19 HV29 HV9 HCX hdy hkn
  refine wp_region_lit ?_
  refine wpList_vload rfl 45 (.tmp 9) rfl W7.heap.size 0 rfl _ Tryz.underlying45 rfl xs (by rw [unhide HXL]; exact infoFc) (unhide HV10).range ?_
  try simp only [List.getElem_toArray, List.getElem_cons_zero, List.getElem_cons_succ, Act.put, List.setIfInBounds_toArray, List.set_cons_zero, List.set_cons_succ]
  refine wpList_wanted (by kernel_rfl) fun Kt hKt => ?_
  go_simp
  refine ((unhide HCHX) W10 (unhide HB10)).mono ?_; rintro x W11 ⟨rfl, hb⟩
  dsimp only
  refine hKt _ _ ?_
  clear hKt Kt
  try simp only [List.getElem_toArray, List.getElem_cons_zero, List.getElem_cons_succ, Act.put, List.setIfInBounds_toArray, List.set_cons_zero, List.set_cons_succ]
  have HB11 := hide (thenB (unhide HB10) hb); have HV111 := hide ((unhide HV110).keep hb); have HV211 := hide ((unhide HV210).keep hb)
  clear hb HB10 HV110 HV210 HV10 HXL HCHX HLT HLE
  have hk0 : W11.cell? ⟨w.heap.size, 0, none⟩ = some (.int .i64 fk) := (unhide HV111).cell (unhide HC0)
  have hk1 : W11.cell? ⟨w.heap.size + 1, 0, none⟩ = some (.int .i64 gk) := (unhide HV211).cell (unhide HD0)
  by_cases hfg : fk = gk
  · have hbe : (fk == gk) = true := by simpa using hfg
    clear hfg
    go_wp2_with fail
    go_ret
    exact ⟨rfl, unhide HB11⟩
  have hbe : (fk == gk) = false := by simpa using hfg
  have HNE := hide hfg
  clear hfg
  go_upto_region 11 with fail
  clear hk0 hk1
  refine wp_region_lit ?_
  refine wpList_vload rfl 45 (.tmp 4) rfl w.heap.size 0 rfl _ Tryz.underlying45 rfl cs (by rw [unhide HLC]; exact infoFc) (unhide HV111).range ?_
  try simp only [List.getElem_toArray, List.getElem_cons_zero, List.getElem_cons_succ, Act.put, List.setIfInBounds_toArray, List.set_cons_zero, List.set_cons_succ]
  refine wpList_wanted (by kernel_rfl) fun Kt hKt => ?_
  go_simp
  refine hKt _ _ ?_
  clear hKt Kt
  try simp only [List.getElem_toArray, List.getElem_cons_zero, List.getElem_cons_succ, Act.put, List.setIfInBounds_toArray, List.set_cons_zero, List.set_cons_succ]
  generalize hX12 : W11.alloc _ = W12
  have hB12 : Below W11.heap.size W11 W12 := hX12 ▸ (Below.refl _ _).alloc (Nat.le_refl _) _
  have HZ12 := hide (boxedV W11 W12 (fC f0 a0) 45 (by rw [← hX12]; rfl))
  have hle11 := (unhide HB11).size
  clear hX12
  refine wpList_vput rfl 45 (.tmp 10) (.tmp 45) rfl W11.heap.size 0 rfl cs rfl (by rw [unhide HLC]; exact infoFc) (unhide HOC) 45 _ (unhide HZ12) (by rw [unhide HLC, fC_length _ _ rfl]; exact Nat.le_refl _) ?_
  intro W13 HV13y HG13
  rw [spliceV_all _ _ (by rw [unhide HLC, fC_length _ _ rfl])] at HV13y
  have hb13 : Below W11.heap.size W11 W13 := hB12.grown (unhide HG13) hB12.size (fun i e => by injection e with e; omega)
  have HB13 := hide (thenB (unhide HB11) hb13); have HV213 := hide ((unhide HV211).keep hb13)
  have HLE := hide hle11
  clear HG13 HZ12 hB12 hb13 HB11 HV111 HV211 hle11
  have hk1 : W13.cell? ⟨w.heap.size + 1, 0, none⟩ = some (.int .i64 gk) := (unhide HV213).cell (unhide HD0)

  by_cases hg1 : gk = 1
  · subst hg1
    go_upto_region 15 with fail
    clear hk1
    refine wp_region_lit ?_
    refine wpList_plain rfl fun Kt hKt => ?_
    go_simp
    refine hKt _ _ ?_
    clear hKt Kt
    try simp only [List.getElem_toArray, List.getElem_cons_zero, List.getElem_cons_succ, Act.put, List.setIfInBounds_toArray, List.set_cons_zero, List.set_cons_succ]
    refine wpList_vload rfl 24 (.tmp 50) rfl (w.heap.size + 1) 3 rfl _ Tryz.underlying24 rfl ((ds.drop 3).take 4) (by rw [List.length_take, List.length_drop, unhide HLD]; kernel_rfl) (part_range (unhide HV213) 3 4) ?_
    try simp only [List.getElem_toArray, List.getElem_cons_zero, List.getElem_cons_succ, Act.put, List.setIfInBounds_toArray, List.set_cons_zero, List.set_cons_succ]
    refine wpList_plain rfl fun Kt hKt => ?_
    go_simp
    refine hKt _ _ ?_
    clear hKt Kt
    try simp only [List.getElem_toArray, List.getElem_cons_zero, List.getElem_cons_succ, Act.put, List.setIfInBounds_toArray, List.set_cons_zero, List.set_cons_succ]
    refine wpList_vput rfl 24 (.tmp 52) (.tmp 51) rfl W11.heap.size 3 rfl ((ds.drop 3).take 4) rfl (by rw [List.length_take, List.length_drop, unhide HLD]; kernel_rfl) (part_one (unhide HOD) 3 4) 45 _ (unhide HV13y) (by rw [List.length_take, List.length_drop, unhide HLD, unhide HLC]; decide) ?_
    intro W14 HV14 HG14
    have HB14 := hide ((unhide HB13).grown (unhide HG14) (unhide HB13).size (fun i e => by injection e with e; have := unhide HLE; omega))
    have hy := (unhide HY1) rfl rfl rfl (unhide HNE) rfl
    have hyl : (spliceV cs ((ds.drop 3).take 4) 3).length = 82 := by unfold spliceV; simp only [List.length_append, List.length_take, List.length_drop, unhide HLC, unhide HLD]; decide
    generalize spliceV cs ((ds.drop 3).take 4) 3 = ys at HV14 hy hyl
    have HCY := hide hy; have HYL := hide hyl
    clear hy hyl
    go_upto_region 26 with fail
    refine wp_region_lit ?_
    refine wpList_vload rfl 45 (.tmp 10) rfl W11.heap.size 0 rfl _ Tryz.underlying45 rfl ys (by rw [unhide HYL]; exact infoFc) (unhide HV14).range ?_
    try simp only [List.getElem_toArray, List.getElem_cons_zero, List.getElem_cons_succ, Act.put, List.setIfInBounds_toArray, List.set_cons_zero, List.set_cons_succ]
    refine wpList_wanted (by kernel_rfl) fun Kt hKt => ?_
    go_simp
    refine ((unhide HCY) W14 (unhide HB14)).mono ?_; rintro x W15 ⟨rfl, hb⟩
    dsimp only
    refine hKt _ _ ?_
    clear hKt Kt
    try simp only [List.getElem_toArray, List.getElem_cons_zero, List.getElem_cons_succ, Act.put, List.setIfInBounds_toArray, List.set_cons_zero, List.set_cons_succ]
    have HB15 := hide (thenB (unhide HB14) hb)
    clear hb
    go_wp2_with fail
    go_ret
    exact ⟨rfl, unhide HB15⟩
  have hn1 : (gk == 1) = false := by simpa using hg1
  clear hg1
  by_cases hg3 : gk = 3
  · subst hg3
    go_upto_region 17 with fail
    clear hk1
    refine wp_region_lit ?_
    refine wpList_plain rfl fun Kt hKt => ?_
    go_simp
    refine hKt _ _ ?_
    clear hKt Kt
    try simp only [List.getElem_toArray, List.getElem_cons_zero, List.getElem_cons_succ, Act.put, List.setIfInBounds_toArray, List.set_cons_zero, List.set_cons_succ]
    refine wpList_vload rfl 31 (.tmp 55) rfl (w.heap.size + 1) 12 rfl _ Tryz.underlying31 rfl ((ds.drop 12).take 13) (by rw [List.length_take, List.length_drop, unhide HLD]; kernel_rfl) (part_range (unhide HV213) 12 13) ?_
    try simp only [List.getElem_toArray, List.getElem_cons_zero, List.getElem_cons_succ, Act.put, List.setIfInBounds_toArray, List.set_cons_zero, List.set_cons_succ]
    refine wpList_plain rfl fun Kt hKt => ?_
    go_simp
    refine hKt _ _ ?_
    clear hKt Kt
    try simp only [List.getElem_toArray, List.getElem_cons_zero, List.getElem_cons_succ, Act.put, List.setIfInBounds_toArray, List.set_cons_zero, List.set_cons_succ]
    refine wpList_vput rfl 31 (.tmp 57) (.tmp 56) rfl W11.heap.size 12 rfl ((ds.drop 12).take 13) rfl (by rw [List.length_take, List.length_drop, unhide HLD]; kernel_rfl) (part_one (unhide HOD) 12 13) 45 _ (unhide HV13y) (by rw [List.length_take, List.length_drop, unhide HLD, unhide HLC]; decide) ?_
    intro W14 HV14 HG14
    have HB14 := hide ((unhide HB13).grown (unhide HG14) (unhide HB13).size (fun i e => by injection e with e; have := unhide HLE; omega))
    have hy := (unhide HY3) rfl rfl rfl (unhide HNE) rfl
    have hyl : (spliceV cs ((ds.drop 12).take 13) 12).length = 82 := by unfold spliceV; simp only [List.length_append, List.length_take, List.length_drop, unhide HLC, unhide HLD]; decide
    generalize spliceV cs ((ds.drop 12).take 13) 12 = ys at HV14 hy hyl
    have HCY := hide hy; have HYL := hide hyl
    clear hy hyl
    go_upto_region 26 with fail
    refine wp_region_lit ?_
    refine wpList_vload rfl 45 (.tmp 10) rfl W11.heap.size 0 rfl _ Tryz.underlying45 rfl ys (by rw [unhide HYL]; exact infoFc) (unhide HV14).range ?_
    try simp only [List.getElem_toArray, List.getElem_cons_zero, List.getElem_cons_succ, Act.put, List.setIfInBounds_toArray, List.set_cons_zero, List.set_cons_succ]
    refine wpList_wanted (by kernel_rfl) fun Kt hKt => ?_
    go_simp
    refine ((unhide HCY) W14 (unhide HB14)).mono ?_; rintro x W15 ⟨rfl, hb⟩
    dsimp only
    refine hKt _ _ ?_
    clear hKt Kt
    try simp only [List.getElem_toArray, List.getElem_cons_zero, List.getElem_cons_succ, Act.put, List.setIfInBounds_toArray, List.set_cons_zero, List.set_cons_succ]
    have HB15 := hide (thenB (unhide HB14) hb)
    clear hb
    go_wp2_with fail
    go_ret
    exact ⟨rfl, unhide HB15⟩
  have hn3 : (gk == 3) = false := by simpa using hg3
  clear hg3
  by_cases hg2 : gk = 2
  · subst hg2
    go_upto_region 19 with fail
    clear hk1
    refine wp_region_lit ?_
    refine wpList_plain rfl fun Kt hKt => ?_
    go_simp
    refine hKt _ _ ?_
    clear hKt Kt
    try simp only [List.getElem_toArray, List.getElem_cons_zero, List.getElem_cons_succ, Act.put, List.setIfInBounds_toArray, List.set_cons_zero, List.set_cons_succ]
    refine wpList_vload rfl 28 (.tmp 60) rfl (w.heap.size + 1) 7 rfl _ Tryz.underlying28 rfl ((ds.drop 7).take 5) (by rw [List.length_take, List.length_drop, unhide HLD]; kernel_rfl) (part_range (unhide HV213) 7 5) ?_
    try simp only [List.getElem_toArray, List.getElem_cons_zero, List.getElem_cons_succ, Act.put, List.setIfInBounds_toArray, List.set_cons_zero, List.set_cons_succ]
    refine wpList_plain rfl fun Kt hKt => ?_
    go_simp
    refine hKt _ _ ?_
    clear hKt Kt
    try simp only [List.getElem_toArray, List.getElem_cons_zero, List.getElem_cons_succ, Act.put, List.setIfInBounds_toArray, List.set_cons_zero, List.set_cons_succ]
    refine wpList_vput rfl 28 (.tmp 62) (.tmp 61) rfl W11.heap.size 7 rfl ((ds.drop 7).take 5) rfl (by rw [List.length_take, List.length_drop, unhide HLD]; kernel_rfl) (part_one (unhide HOD) 7 5) 45 _ (unhide HV13y) (by rw [List.length_take, List.length_drop, unhide HLD, unhide HLC]; decide) ?_
    intro W14 HV14 HG14
    have HB14 := hide ((unhide HB13).grown (unhide HG14) (unhide HB13).size (fun i e => by injection e with e; have := unhide HLE; omega))
    have hy := (unhide HY2) rfl rfl rfl (unhide HNE) rfl
    have hyl : (spliceV cs ((ds.drop 7).take 5) 7).length = 82 := by unfold spliceV; simp only [List.length_append, List.length_take, List.length_drop, unhide HLC, unhide HLD]; decide
    generalize spliceV cs ((ds.drop 7).take 5) 7 = ys at HV14 hy hyl
    have HCY := hide hy; have HYL := hide hyl
    clear hy hyl
    go_upto_region 26 with fail
    refine wp_region_lit ?_
    refine wpList_vload rfl 45 (.tmp 10) rfl W11.heap.size 0 rfl _ Tryz.underlying45 rfl ys (by rw [unhide HYL]; exact infoFc) (unhide HV14).range ?_
    try simp only [List.getElem_toArray, List.getElem_cons_zero, List.getElem_cons_succ, Act.put, List.setIfInBounds_toArray, List.set_cons_zero, List.set_cons_succ]
    refine wpList_wanted (by kernel_rfl) fun Kt hKt => ?_
    go_simp
    refine ((unhide HCY) W14 (unhide HB14)).mono ?_; rintro x W15 ⟨rfl, hb⟩
    dsimp only
    refine hKt _ _ ?_
    clear hKt Kt
    try simp only [List.getElem_toArray, List.getElem_cons_zero, List.getElem_cons_succ, Act.put, List.setIfInBounds_toArray, List.set_cons_zero, List.set_cons_succ]
    have HB15 := hide (thenB (unhide HB14) hb)
    clear hb
    go_wp2_with fail
    go_ret
    exact ⟨rfl, unhide HB15⟩
  have hn2 : (gk == 2) = false := by simpa using hg2
  clear hg2
  by_cases hg4 : gk = 4
  · subst hg4
    go_upto_region 21 with fail
    clear hk1
    refine wp_region_lit ?_
    refine wpList_plain rfl fun Kt hKt => ?_
    go_simp
    refine hKt _ _ ?_
    clear hKt Kt
    try simp only [List.getElem_toArray, List.getElem_cons_zero, List.getElem_cons_succ, Act.put, List.setIfInBounds_toArray, List.set_cons_zero, List.set_cons_succ]
    refine wpList_vload rfl 35 (.tmp 65) rfl (w.heap.size + 1) 25 rfl _ Tryz.underlying35 rfl ((ds.drop 25).take 17) (by rw [List.length_take, List.length_drop, unhide HLD]; kernel_rfl) (part_range (unhide HV213) 25 17) ?_
    try simp only [List.getElem_toArray, List.getElem_cons_zero, List.getElem_cons_succ, Act.put, List.setIfInBounds_toArray, List.set_cons_zero, List.set_cons_succ]
    refine wpList_plain rfl fun Kt hKt => ?_
    go_simp
    refine hKt _ _ ?_
    clear hKt Kt
    try simp only [List.getElem_toArray, List.getElem_cons_zero, List.getElem_cons_succ, Act.put, List.setIfInBounds_toArray, List.set_cons_zero, List.set_cons_succ]
    refine wpList_vput rfl 35 (.tmp 67) (.tmp 66) rfl W11.heap.size 25 rfl ((ds.drop 25).take 17) rfl (by rw [List.length_take, List.length_drop, unhide HLD]; kernel_rfl) (part_one (unhide HOD) 25 17) 45 _ (unhide HV13y) (by rw [List.length_take, List.length_drop, unhide HLD, unhide HLC]; decide) ?_
    intro W14 HV14 HG14
    have HB14 := hide ((unhide HB13).grown (unhide HG14) (unhide HB13).size (fun i e => by injection e with e; have := unhide HLE; omega))
    have hy := (unhide HY4) rfl rfl rfl (unhide HNE) rfl
    have hyl : (spliceV cs ((ds.drop 25).take 17) 25).length = 82 := by unfold spliceV; simp only [List.length_append, List.length_take, List.length_drop, unhide HLC, unhide HLD]; decide
    generalize spliceV cs ((ds.drop 25).take 17) 25 = ys at HV14 hy hyl
    have HCY := hide hy; have HYL := hide hyl
    clear hy hyl
    go_upto_region 26 with fail
    refine wp_region_lit ?_
    refine wpList_vload rfl 45 (.tmp 10) rfl W11.heap.size 0 rfl _ Tryz.underlying45 rfl ys (by rw [unhide HYL]; exact infoFc) (unhide HV14).range ?_
    try simp only [List.getElem_toArray, List.getElem_cons_zero, List.getElem_cons_succ, Act.put, List.setIfInBounds_toArray, List.set_cons_zero, List.set_cons_succ]
    refine wpList_wanted (by kernel_rfl) fun Kt hKt => ?_
    go_simp
    refine ((unhide HCY) W14 (unhide HB14)).mono ?_; rintro x W15 ⟨rfl, hb⟩
    dsimp only
    refine hKt _ _ ?_
    clear hKt Kt
    try simp only [List.getElem_toArray, List.getElem_cons_zero, List.getElem_cons_succ, Act.put, List.setIfInBounds_toArray, List.set_cons_zero, List.set_cons_succ]
    have HB15 := hide (thenB (unhide HB14) hb)
    clear hb
    go_wp2_with fail
    go_ret
    exact ⟨rfl, unhide HB15⟩
  have hn4 : (gk == 4) = false := by simpa using hg4
  clear hg4
  by_cases hg5 : gk = 5
  · subst hg5
    go_upto_region 23 with fail
    clear hk1
    refine wp_region_lit ?_
    refine wpList_plain rfl fun Kt hKt => ?_
    go_simp
    refine hKt _ _ ?_
    clear hKt Kt
    try simp only [List.getElem_toArray, List.getElem_cons_zero, List.getElem_cons_succ, Act.put, List.setIfInBounds_toArray, List.set_cons_zero, List.set_cons_succ]
    refine wpList_vload rfl 37 (.tmp 70) rfl (w.heap.size + 1) 42 rfl _ Tryz.underlying37 rfl ((ds.drop 42).take 3) (by rw [List.length_take, List.length_drop, unhide HLD]; kernel_rfl) (part_range (unhide HV213) 42 3) ?_
    try simp only [List.getElem_toArray, List.getElem_cons_zero, List.getElem_cons_succ, Act.put, List.setIfInBounds_toArray, List.set_cons_zero, List.set_cons_succ]
    refine wpList_plain rfl fun Kt hKt => ?_
    go_simp
    refine hKt _ _ ?_
    clear hKt Kt
    try simp only [List.getElem_toArray, List.getElem_cons_zero, List.getElem_cons_succ, Act.put, List.setIfInBounds_toArray, List.set_cons_zero, List.set_cons_succ]
    refine wpList_vput rfl 37 (.tmp 72) (.tmp 71) rfl W11.heap.size 42 rfl ((ds.drop 42).take 3) rfl (by rw [List.length_take, List.length_drop, unhide HLD]; kernel_rfl) (part_one (unhide HOD) 42 3) 45 _ (unhide HV13y) (by rw [List.length_take, List.length_drop, unhide HLD, unhide HLC]; decide) ?_
    intro W14 HV14 HG14
    have HB14 := hide ((unhide HB13).grown (unhide HG14) (unhide HB13).size (fun i e => by injection e with e; have := unhide HLE; omega))
    have hy := (unhide HY5) rfl rfl rfl (unhide HNE) rfl
    have hyl : (spliceV cs ((ds.drop 42).take 3) 42).length = 82 := by unfold spliceV; simp only [List.length_append, List.length_take, List.length_drop, unhide HLC, unhide HLD]; decide
    generalize spliceV cs ((ds.drop 42).take 3) 42 = ys at HV14 hy hyl
    have HCY := hide hy; have HYL := hide hyl
    clear hy hyl
    go_upto_region 26 with fail
    refine wp_region_lit ?_
    refine wpList_vload rfl 45 (.tmp 10) rfl W11.heap.size 0 rfl _ Tryz.underlying45 rfl ys (by rw [unhide HYL]; exact infoFc) (unhide HV14).range ?_
    try simp only [List.getElem_toArray, List.getElem_cons_zero, List.getElem_cons_succ, Act.put, List.setIfInBounds_toArray, List.set_cons_zero, List.set_cons_succ]
    refine wpList_wanted (by kernel_rfl) fun Kt hKt => ?_
    go_simp
    refine ((unhide HCY) W14 (unhide HB14)).mono ?_; rintro x W15 ⟨rfl, hb⟩
    dsimp only
    refine hKt _ _ ?_
    clear hKt Kt
    try simp only [List.getElem_toArray, List.getElem_cons_zero, List.getElem_cons_succ, Act.put, List.setIfInBounds_toArray, List.set_cons_zero, List.set_cons_succ]
    have HB15 := hide (thenB (unhide HB14) hb)
    clear hb
    go_wp2_with fail
    go_ret
    exact ⟨rfl, unhide HB15⟩
  have hn5 : (gk == 5) = false := by simpa using hg5
  clear hg5
  by_cases hg7 : gk = 7
  · subst hg7
    go_upto_region 25 with fail
    clear hk1
    refine wp_region_lit ?_
    refine wpList_plain rfl fun Kt hKt => ?_
    go_simp
    refine hKt _ _ ?_
    clear hKt Kt
    try simp only [List.getElem_toArray, List.getElem_cons_zero, List.getElem_cons_succ, Act.put, List.setIfInBounds_toArray, List.set_cons_zero, List.set_cons_succ]
    refine wpList_vload rfl 41 (.tmp 75) rfl (w.heap.size + 1) 47 rfl _ Tryz.underlying41 rfl ((ds.drop 47).take 3) (by rw [List.length_take, List.length_drop, unhide HLD]; kernel_rfl) (part_range (unhide HV213) 47 3) ?_
    try simp only [List.getElem_toArray, List.getElem_cons_zero, List.getElem_cons_succ, Act.put, List.setIfInBounds_toArray, List.set_cons_zero, List.set_cons_succ]
    refine wpList_plain rfl fun Kt hKt => ?_
    go_simp
    refine hKt _ _ ?_
    clear hKt Kt
    try simp only [List.getElem_toArray, List.getElem_cons_zero, List.getElem_cons_succ, Act.put, List.setIfInBounds_toArray, List.set_cons_zero, List.set_cons_succ]
    refine wpList_vput rfl 41 (.tmp 77) (.tmp 76) rfl W11.heap.size 47 rfl ((ds.drop 47).take 3) rfl (by rw [List.length_take, List.length_drop, unhide HLD]; kernel_rfl) (part_one (unhide HOD) 47 3) 45 _ (unhide HV13y) (by rw [List.length_take, List.length_drop, unhide HLD, unhide HLC]; decide) ?_
    intro W14 HV14 HG14
    have HB14 := hide ((unhide HB13).grown (unhide HG14) (unhide HB13).size (fun i e => by injection e with e; have := unhide HLE; omega))
    have hy := (unhide HY7) rfl rfl rfl (unhide HNE) rfl
    have hyl : (spliceV cs ((ds.drop 47).take 3) 47).length = 82 := by unfold spliceV; simp only [List.length_append, List.length_take, List.length_drop, unhide HLC, unhide HLD]; decide
    generalize spliceV cs ((ds.drop 47).take 3) 47 = ys at HV14 hy hyl
    have HCY := hide hy; have HYL := hide hyl
    clear hy hyl
    go_upto_region 26 with fail
    refine wp_region_lit ?_
    refine wpList_vload rfl 45 (.tmp 10) rfl W11.heap.size 0 rfl _ Tryz.underlying45 rfl ys (by rw [unhide HYL]; exact infoFc) (unhide HV14).range ?_
    try simp only [List.getElem_toArray, List.getElem_cons_zero, List.getElem_cons_succ, Act.put, List.setIfInBounds_toArray, List.set_cons_zero, List.set_cons_succ]
    refine wpList_wanted (by kernel_rfl) fun Kt hKt => ?_
    go_simp
    refine ((unhide HCY) W14 (unhide HB14)).mono ?_; rintro x W15 ⟨rfl, hb⟩
    dsimp only
    refine hKt _ _ ?_
    clear hKt Kt
    try simp only [List.getElem_toArray, List.getElem_cons_zero, List.getElem_cons_succ, Act.put, List.setIfInBounds_toArray, List.set_cons_zero, List.set_cons_succ]
    have HB15 := hide (thenB (unhide HB14) hb)
    clear hb
    go_wp2_with fail
    go_ret
    exact ⟨rfl, unhide HB15⟩
  have hn7 : (gk == 7) = false := by simpa using hg7
  clear hg7
  go_wp2_with fail
  go_ret
  exact ⟨rfl, unhide HB13⟩
end Go.Proofs.YtdmaopfaeigelaaGreatDoor
namespace Go.Proofs.YtdmaopfaeigelaaGreatDoor
set_option linter.unusedSimpArgs false
set_option linter.unusedVariables false
set_option maxRecDepth 100000
open Go.RowKit

/-- what is known of an argument: its lists lie in memory if they are short -/
structure FArg (w : World) (f : Fc) (a : Ad) : Prop where
  at_ : smallF f = true → FAt w f a
  void : f.void.length = 32
  wf : FWf f
theorem FAt.dated {w : World} {f : Fc} {a : Ad} (h : FAt w f a) (d k : Int) : FAt w { f with day := d, known := k } a := ⟨h.cl, h.hs, h.as_, h.hc, h.ac, h.od, h.void⟩
theorem put1 (f g : Fc) (a b : Ad) : spliceV (fC f a) (((fC g b).drop 3).take 4) 3 = fC (mixF 1 f g) (mixA 1 a b) := rfl
theorem put2 (f g : Fc) (a b : Ad) : spliceV (fC f a) (((fC g b).drop 7).take 5) 7 = fC (mixF 2 f g) (mixA 2 a b) := rfl
theorem put3 (f g : Fc) (a b : Ad) : spliceV (fC f a) (((fC g b).drop 12).take 13) 12 = fC (mixF 3 f g) (mixA 3 a b) := rfl
theorem put4 (f g : Fc) (a b : Ad) : spliceV (fC f a) (((fC g b).drop 25).take 17) 25 = fC (mixF 4 f g) (mixA 4 a b) := rfl
theorem put5 (f g : Fc) (a b : Ad) : spliceV (fC f a) (((fC g b).drop 42).take 3) 42 = fC (mixF 5 f g) (mixA 5 a b) := rfl
theorem put7 (f g : Fc) (a b : Ad) : spliceV (fC f a) (((fC g b).drop 47).take 3) 47 = fC (mixF 7 f g) (mixA 7 a b) := rfl
theorem mix_at {w : World} {f g : Fc} {a b : Ad} (h : FAt w f a) (q : FAt w g b) (k : Int) (hk : k = 1 ∨ k = 2 ∨ k = 3 ∨ k = 4 ∨ k = 5 ∨ k = 7) : FAt w (mixF k f g) (mixA k a b) := by
  rcases hk with rfl | rfl | rfl | rfl | rfl | rfl
  · exact ⟨q.cl, h.hs, h.as_, h.hc, h.ac, h.od, h.void⟩
  · exact ⟨h.cl, h.hs, h.as_, h.hc, h.ac, h.od, h.void⟩
  · exact ⟨h.cl, q.hs, q.as_, q.hc, q.ac, h.od, h.void⟩
  · exact ⟨h.cl, h.hs, h.as_, h.hc, h.ac, h.od, h.void⟩
  · exact ⟨h.cl, h.hs, h.as_, h.hc, h.ac, h.od, h.void⟩
  · exact ⟨h.cl, h.hs, h.as_, h.hc, h.ac, q.od, h.void⟩
theorem mix_wf {f g : Fc} (h : FWf f) (q : FWf g) (k : Int) (hk : k = 1 ∨ k = 2 ∨ k = 3 ∨ k = 4 ∨ k = 5 ∨ k = 7) : FWf (mixF k f g) := by
  rcases hk with rfl | rfl | rfl | rfl | rfl | rfl
  · exact h
  · exact h
  · exact h
  · exact ⟨h.1, q.2⟩
  · exact h
  · exact h
theorem mix_chk {w : World} {f g : Fc} {a b : Ad} (hf : FArg w f a) (hg : FArg w g b) (k : Int) (hk : k = 1 ∨ k = 2 ∨ k = 3 ∨ k = 4 ∨ k = 5 ∨ k = 7) (hs : (smallF f && smallF g) = true) (h2 : okFact g = true) (hne : f.kind ≠ g.kind) (hgk : g.kind = k) : Chk w (fC (mixF k f g) (mixA k a b)) 70 := by
  rw [Bool.and_eq_true] at hs
  intro W hW
  have h := check_any' (mixF k f g) (mixA k a b) W ((mix_at (hf.at_ hs.1) (hg.at_ hs.2) k hk).keep hW) (mix_wf hf.wf hg.wf k hk)
  rw [mix_bad f g k hk (by have := (ok_open h2).2; rw [hgk] at this; exact this) (by rw [← hgk]; exact hne)] at h
  exact h
theorem only_any (f g : Fc) (a b : Ad) (dy kn : Int) (w : World) (hf : FArg w f a) (hg : FArg w g b) (hdy : 0 ≤ dy ∧ dy ≤ 4294967295) (hkn : 0 ≤ kn ∧ kn ≤ 4294967295) (hE : Env w) (hgt : gTop ≤ w.heap.size) :
    Calls Tryz.prog 10 #[.agg (fC f a).toArray, .agg (fC g b).toArray, .int .u32 dy, .int .u32 kn] w (LawOk w) := by
  refine only_core (fC f a) (fC g b) f.kind g.kind dy kn (smallF f && smallF g) (okFact f) (okFact g) w (fC_length _ _ hf.void) (fC_length _ _ hg.void) (fC_one _ _) (fC_one _ _) rfl rfl hdy hkn
    (fun W hW => sane_any W (hE.to hgt hW) (Nat.le_trans hgt hW.size)) ?_ ?_ ?_ ?_ ?_ ?_ ?_ ?_ ?_ ?_
  · intro W bb h
    have hv : ∀ p ∈ [(f, a), (g, b)], p.1.void.length = 32 := by
      intro p hp
      simp at hp
      rcases hp with rfl | rfl
      · exact hf.void
      · exact hg.void
    have h1 := few_any bb 2 [(f, a), (g, b)] W h hv (by simp) (by simp)
    rw [show ([(f, a), (g, b)].all fun p => smallF p.1) = (smallF f && smallF g) by simp] at h1
    exact h1
  · intro hs W hW
    rw [Bool.and_eq_true] at hs
    exact check_any' f a W ((hf.at_ hs.1).keep hW) hf.wf
  · intro hs W hW
    rw [Bool.and_eq_true] at hs
    exact check_any' g b W ((hg.at_ hs.2).keep hW) hg.wf
  · intro hs h1 d k hd hk W hW
    rw [Bool.and_eq_true] at hs
    have h := check_any' { f with day := d, known := k } a W (((hf.at_ hs.1).dated d k).keep hW) hf.wf
    rw [ok_dated f d k h1 hd hk] at h
    exact h
  · intro hs h1 h2 hne hgk
    rw [put1]
    exact mix_chk hf hg 1 (by simp) hs h2 hne hgk
  · intro hs h1 h2 hne hgk
    rw [put3]
    exact mix_chk hf hg 3 (by simp) hs h2 hne hgk
  · intro hs h1 h2 hne hgk
    rw [put2]
    exact mix_chk hf hg 2 (by simp) hs h2 hne hgk
  · intro hs h1 h2 hne hgk
    rw [put4]
    exact mix_chk hf hg 4 (by simp) hs h2 hne hgk
  · intro hs h1 h2 hne hgk
    rw [put5]
    exact mix_chk hf hg 5 (by simp) hs h2 hne hgk
  · intro hs h1 h2 hne hgk
    rw [put7]
    exact mix_chk hf hg 7 (by simp) hs h2 hne hgk
end Go.Proofs.YtdmaopfaeigelaaGreatDoor
