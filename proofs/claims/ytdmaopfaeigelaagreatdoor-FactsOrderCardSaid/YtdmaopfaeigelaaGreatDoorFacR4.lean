/- Contracts over the program of facts: the look-up of a key; bytes.Equal. -/
import Derived.Test.YtdmaopfaeigelaaGreatDoorFacYR
import Derived.Test.YtdmaopfaeigelaaGreatDoorCodGlue
namespace Go.Proofs.YtdmaopfaeigelaaGreatDoor
set_option linter.unusedSimpArgs false
set_option linter.unusedVariables false
open Go.RowKit

theorem infoVa : (Tryz.prog.info? 66).map (·.size) = some 5 := by kernel_rfl
set_option maxRecDepth 100000 in
set_option maxHeartbeats 2000000 in
theorem readGet_x (V : Va) (k n : Int) (s : ByteArray) (A : Option Addr) (m c : Nat) (A' : Option Addr) (m' c' : Nat) (x : ByteArray) (w0 : World) (hv : VAt w0 V (vaV k n s A m c A' m' c')) :
    ∃ y, VAt w0 ((getF V x).getD zeroVa) y ∧ ∀ vb w, Below w0.heap.size w0 w → VsAt w vb 66 [.int .i64 k, .int .i64 n, .string s, .slice A m c, .slice A' m' c'] → Calls Tryz.prog 90 #[.string x, .pointer (some ⟨vb, 0, none⟩)] w fun e w' => e = .returned y ∧ Below w.heap.size w w' := by
  obtain ⟨y, hy, hG⟩ := get_x V _ x w0 hv
  refine ⟨y, hy, fun vb w hw0 hb => ?_⟩
  obtain ⟨k1, n1, s1, l1, ks1, A1, c1, A2, c2, hV, rfl, _⟩ := hy.open
  obtain ⟨z, hz⟩ : ∃ z, z = (getF V x).isSome := ⟨_, rfl⟩
  rw [← hz] at hG
  have HG := hide (fun W (h : Below w.heap.size w W) => hG W (hw0.trans (h.mono hw0.size)))
  have HBV := hide hb
  clear hv hy hV hb hw0 hG hz
  go_enter Tryz.func90, Tryz.ntmps90
  go_upto_region 1 with fail
  generalize hX1 : w.alloc _ = W1
  have hB1 : Below w.heap.size w W1 := hX1 ▸ (Below.refl _ _).alloc (Nat.le_refl _) _
  have HV := hide (boxedV w W1 [.int .i64 0, .int .i64 0, .string ⟨#[]⟩, .slice none 0 0, .slice none 0 0] 66 (by rw [← hX1]; rfl))
  have HB := hide hB1
  have hc0 : W1.cell? ⟨vb, 0, none⟩ = some (.int .i64 k) := ((unhide HBV).keep hB1).cell rfl
  have hc1 : W1.cell? ⟨vb, 1, none⟩ = some (.int .i64 n) := ((unhide HBV).keep hB1).cell rfl
  have hc2 : W1.cell? ⟨vb, 2, none⟩ = some (.string s) := ((unhide HBV).keep hB1).cell rfl
  have hc3 : W1.cell? ⟨vb, 3, none⟩ = some (.slice A m c) := ((unhide HBV).keep hB1).cell rfl
  have hc4 : W1.cell? ⟨vb, 4, none⟩ = some (.slice A' m' c') := ((unhide HBV).keep hB1).cell rfl
  clear hX1 hB1
  go_wp2_with fail
  refine ((unhide HG) W1 (unhide HB)).mono ?_; rintro e W2 ⟨rfl, hb1⟩
  have HB2 := hide (thenB (unhide HB) hb1); have HV2 := hide ((unhide HV).keep hb1)
  clear hb1 HG hc0 hc1 hc2 hc3 hc4
  unfold vaV
  go_upto_region 2 with fail
  generalize hX3 : W2.alloc _ = W3
  have hB3 : Below W2.heap.size W2 W3 := hX3 ▸ (Below.refl _ _).alloc (Nat.le_refl _) _
  have HX3 := hide (boxedV W2 W3 [.int .i64 k1, .int .i64 n1, .string s1, .slice A1 l1.length c1, .slice A2 ks1.length c2] 66 (by rw [← hX3]; rfl))
  have HB3 := hide (thenB (unhide HB2) hB3); have HV3 := hide ((unhide HV2).keep hB3)
  clear hX3 hB3
  refine wp_region_lit ?_
  refine wpList_vload rfl 66 (.tmp 4) rfl W2.heap.size 0 rfl _ Tryz.underlying66 rfl [.int .i64 k1, .int .i64 n1, .string s1, .slice A1 l1.length c1, .slice A2 ks1.length c2] infoVa (unhide HX3).range ?_
  try simp only [List.getElem_toArray, List.getElem_cons_zero, List.getElem_cons_succ, Act.put, List.setIfInBounds_toArray, List.set_cons_zero, List.set_cons_succ]
  refine wpList_vput rfl 66 (.tmp 3) (.tmp 12) rfl w.heap.size 0 rfl [.int .i64 k1, .int .i64 n1, .string s1, .slice A1 l1.length c1, .slice A2 ks1.length c2] rfl infoVa (by intro v hv; simp at hv; rcases hv with rfl | rfl | rfl | rfl | rfl <;> rfl) 66 _ (unhide HV3) (by simp) ?_
  intro W9 HV9 HG9
  rw [spliceV_all _ _ (by simp)] at HV9
  have HB9 := hide ((unhide HB3).grown (unhide HG9) (unhide HB3).size (fun i e => by injection e with e; omega))
  go_wp2_with fail
  refine vret rfl rfl w.heap.size rfl 66 _ (unhide HV9) _ Tryz.underlying66 rfl infoVa ⟨rfl, unhide HB9⟩
set_option maxRecDepth 100000 in
theorem bequal_any (u v : Value) (l l' : List UInt8) (w : World) (hu : BAt w u l) (hv : BAt w v l') : Calls Tryz.prog 45 #[u, v] w fun e w' => e = .returned (.bool (decide (l = l'))) ∧ w' = w := by
  have h1 := hu.conv
  have h2 := hv.conv
  obtain ⟨A1, c1, rfl, _⟩ := hu
  obtain ⟨A2, c2, rfl, _⟩ := hv
  go_enter Tryz.func45, Tryz.ntmps45
  go_wp2_with fail
  go_ret
  exact ⟨by rw [show (l == l') = decide (l = l') from by rw [Bool.eq_iff_iff]; simp]; rfl, rfl⟩
end Go.Proofs.YtdmaopfaeigelaaGreatDoor
