/- Contracts over the digest's reference: turns. -/
import Derived.Test.YtbclhieobhfdpaaDoorDigRk
namespace Go.Proofs.YtbclhieobhfdpaaDoor
set_option linter.unusedSimpArgs false
set_option linter.unusedVariables false
open Go.RowKit

def xyT : Nat → Nat × Nat
  | 0 => (1, 0)
  | t + 1 => ((xyT t).2, (2 * (xyT t).1 + 3 * (xyT t).2) % 5)
def rT : Nat → (Nat → Int)
  | 0 => fun _ => 0
  | t + 1 => upd (rT t) (5 * (xyT t).2 + (xyT t).1) (((t + 1) * (t + 2) / 2 % 64 : Nat) : Int)
theorem xyT_lt : ∀ t, t < 25 → (xyT t).1 < 5 ∧ (xyT t).2 < 5 := by decide
theorem infoT : (Tryd.prog.info? 49).map (·.size) = some 25 := by kernel_rfl
theorem builtT : Tryd.prog.built 49 [] = some (kc .i64 25 fun _ => 0).toArray := by kernel_rfl
theorem buildT (w : World) : (Instr.build 49 #[]).run Tryd.prog w = .ok (kv .i64 25 fun _ => 0) w := run_build w _ _ _ builtT
theorem newK {k : IntKind} {n : Nat} {t : TypeId} {f : Nat → Int} (w W : World) (hW : W.heap = w.heap.push (.cells (kc k n f).toArray t (0, 0))) : KAt k n W w.heap.size t f := by
  show W.heap[w.heap.size]? = _
  rw [hW, Array.getElem?_push_size]

set_option maxRecDepth 100000 in
set_option maxHeartbeats 2000000 in
theorem rturns_any (w : World) :
    Calls Tryd.prog 28 #[] w fun x w' => x = .returned (kv .i64 25 (rT 24)) ∧ Below w.heap.size w w' := by
  go_enter Tryd.func28, Tryd.ntmps28
  go_upto_region 1 with fail
  generalize hX1 : w.alloc _ = W1
  have hB1 : Below w.heap.size w W1 := hX1 ▸ (Below.refl _ _).alloc (Nat.le_refl _) _
  have ho1 : KAt .i64 25 W1 w.heap.size 49 (fun _ => 0) := newK w W1 (by rw [← hX1]; rfl)
  have hz1 : W1.heap.size = w.heap.size + 1 := by rw [← hX1]; show (w.heap.push _).size = _; rw [Array.size_push]
  clear hX1
  refine wp_region_lit ?_
  refine wpList_build0 rfl 49 rfl (kv .i64 25 fun _ => 0) (buildT _) ?_
  obtain ⟨cz, hcz⟩ : ∃ cs, cs = (kc .i64 25 fun _ => 0).toArray := ⟨_, rfl⟩
  rw [show kv .i64 25 (fun _ => 0) = .agg cz by rw [hcz]]
  have HCZ := hide hcz
  clear hcz
  refine wpList_plain rfl fun Kt hKt => ?_
  go_simp
  refine hKt _ _ ?_
  clear hKt Kt
  generalize hX2 : W1.alloc _ = W2
  have hB2 : Below W1.heap.size W1 W2 := hX2 ▸ (Below.refl _ _).alloc (Nat.le_refl _) _
  have ho2 : KAt .i64 25 W2 W1.heap.size 49 (fun _ => 0) := newK W1 W2 (by rw [← hX2]; rfl)
  rw [hz1] at ho2
  have HB2 := hide (thenB hB1 hB2)
  have HO1 := hide (ho1.keep hB2)
  have HO2 := hide ho2
  clear hX2 hB1 hB2 ho1 ho2 hz1
  refine wpList_kstore rfl 49 (.tmp 1) (.tmp 6) rfl (w.heap.size + 1) rfl .i64 25 (fun _ => 0) (show Value.agg cz = _ by rw [unhide HCZ]) infoT _ _ (unhide HO2) ?_
  intro W3 HR3 HG3
  have HB3 := hide ((unhide HB2).grown (unhide HG3) (unhide HB2).size (fun i e => by injection e with e; omega))
  have HO3 := hide ((unhide HO1).grown (unhide HG3) (by omega))
  clear HG3 HO1 HO2 HB2
  try simp only [List.getElem_toArray, List.getElem_cons_zero, List.getElem_cons_succ, Act.put, List.setIfInBounds_toArray, List.set_cons_zero, List.set_cons_succ]
  go_wp2_with fail
  go_loopg [2, 3, 4] 24 (fun g y2 y3 y4 wx => ∃ t : Nat, y2 = .int .i64 (((xyT t).1 : Nat) : Int) ∧ y3 = .int .i64 (((xyT t).2 : Nat) : Int) ∧ y4 = .int .i64 (t : Int) ∧ t + g = 24 ∧ KAt .i64 25 wx (w.heap.size + 1) 49 (rT t) ∧ KAt .i64 25 wx w.heap.size 49 (fun _ => 0) ∧ Below w.heap.size w wx)
  case atStart => exact ⟨0, rfl, rfl, rfl, by omega, unhide HR3, unhide HO3, unhide HB3⟩
  case round =>
    obtain ⟨t, rfl, rfl, rfl, htg, hr, ho, hb⟩ := hrel
    have HR := hide hr; have HO := hide ho; have HB := hide hb
    clear hr ho hb
    by_cases ht : t < 24
    · obtain ⟨g, rfl⟩ : ∃ g, gk = g + 1 := ⟨gk - 1, by omega⟩
      obtain ⟨hx5, hy5⟩ := xyT_lt t (by omega)
      obtain ⟨x, hx⟩ : ∃ x, x = (xyT t).1 := ⟨_, rfl⟩
      obtain ⟨y, hy⟩ : ∃ y, y = (xyT t).2 := ⟨_, rfl⟩
      rw [← hx] at hx5 ⊢
      rw [← hy] at hy5 ⊢
      obtain ⟨q, hq⟩ : ∃ q, q = 5 * y + x := ⟨_, rfl⟩
      obtain ⟨a, ha⟩ : ∃ a, a = t + 1 := ⟨_, rfl⟩
      obtain ⟨b, hbb⟩ : ∃ b, b = t + 2 := ⟨_, rfl⟩
      obtain ⟨m, hm⟩ : ∃ m, m = (t + 1) * (t + 2) := ⟨_, rfl⟩
      obtain ⟨r, hr⟩ : ∃ r, r = m / 2 % 64 := ⟨_, rfl⟩
      obtain ⟨z, hz⟩ : ∃ z, z = (2 * x + 3 * y) % 5 := ⟨_, rfl⟩
      have hm8 : m ≤ 25 * 26 := by rw [hm]; exact Nat.mul_le_mul (by omega) (by omega)
      have i1 : (t : Int) < 24 := by omega
      have w1 : IntKind.i64.wrap ((t : Int) + 1) = (a : Int) := (IntWalk.i64_in _ (by omega)).trans (by omega)
      have w2 : IntKind.i64.wrap ((t : Int) + 2) = (b : Int) := (IntWalk.i64_in _ (by omega)).trans (by omega)
      have w3 : IntKind.i64.wrap ((a : Int) * (b : Int)) = (m : Int) := by rw [show (a : Int) * (b : Int) = (m : Int) by rw [hm, ha, hbb]; push_cast; rfl]; exact IntWalk.i64_in _ (by omega)
      have w4 : IntKind.i64.wrap ((m : Int) / 2) = ((m / 2 : Nat) : Int) := (IntWalk.i64_in _ (by omega)).trans (by omega)
      have w5 : (((m / 2 : Nat) : Int)).tmod 64 = (r : Int) := (Int.tmod_eq_emod_of_nonneg (by omega)).trans (by omega)
      have w6 : IntKind.i64.wrap (2 * (x : Int)) = ((2 * x : Nat) : Int) := (IntWalk.i64_in _ (by omega)).trans (by omega)
      have w7 : IntKind.i64.wrap (3 * (y : Int)) = ((3 * y : Nat) : Int) := (IntWalk.i64_in _ (by omega)).trans (by omega)
      have w8 : IntKind.i64.wrap (((2 * x : Nat) : Int) + ((3 * y : Nat) : Int)) = ((2 * x + 3 * y : Nat) : Int) := (IntWalk.i64_in _ (by omega)).trans (by omega)
      have w9 : (((2 * x + 3 * y : Nat) : Int)).tmod 5 = (z : Int) := (Int.tmod_eq_emod_of_nonneg (by omega)).trans (by omega)
      have q1 : q < 25 := by omega
      have q2 : (q : Int) < 25 := by omega
      have q0 : (0 : Int) ≤ (q : Int) := Int.natCast_nonneg _
      have HT : Hid (t + (g + 1) = 24 ∧ x = (xyT t).1 ∧ y = (xyT t).2 ∧ q = 5 * y + x ∧ m = (t + 1) * (t + 2) ∧ r = m / 2 % 64 ∧ z = (2 * x + 3 * y) % 5 ∧ x < 5 ∧ y < 5 ∧ a = t + 1 ∧ q < 25) := ⟨htg, hx, hy, hq, hm, hr, hz, hx5, hy5, ha, q1⟩
      have hcell := (unhide HR).cell q1
      have hfree := (unhide HR).free q
      clear htg hx hy hq hm hr hz hx5 hy5 ha hbb hm8 ht
      go_wp2_with fail
      have hat := rat_any (x : Int) (y : Int) (by have := unhide HT; omega) (by have := unhide HT; omega) wr
      rw [show 5 * ((y : Int) % 5) + (x : Int) % 5 = (q : Int) by have := unhide HT; omega] at hat
      refine hat.mono ?_; rintro x0 W4 ⟨rfl, rfl⟩
      clear hat
      go_wp2_with fail
      go_roundg g
      case measure => omega
      case rel =>
        have h := unhide HT
        have ez : wrap64 (2 * (x : Int) + 3 * (y : Int)) = ((2 * x + 3 * y : Nat) : Int) := ((IntWalk.i64_left _).symm.trans (IntWalk.i64_in _ (by omega))).trans (by omega)
        have ez2 : (wrap64 (2 * (x : Int) + 3 * (y : Int))).tmod 5 = (z : Int) := by rw [ez]; exact (Int.tmod_eq_emod_of_nonneg (by omega)).trans (by omega)
        have er : (m : Int) / 2 % 64 = (((t + 1) * (t + 2) / 2 % 64 : Nat) : Int) := by rw [← h.2.2.2.2.1]; omega
        refine ⟨t + 1, by rw [show (xyT (t + 1)).1 = y from h.2.2.1.symm], by rw [ez2, show (xyT (t + 1)).2 = z by rw [h.2.2.2.2.2.2.1, h.2.1, h.2.2.1]; rfl], by rw [h.2.2.2.2.2.2.2.2.2.1], by omega, ?_, (unhide HO).grown (grownSet (w := W4) ⟨rfl, rfl, rfl, Nat.le_refl _, fun _ _ _ => rfl⟩ _ _) (by omega), (unhide HB).grown (grownSet (w := W4) ⟨rfl, rfl, rfl, Nat.le_refl _, fun _ _ _ => rfl⟩ q _) (unhide HB).size (fun i e => by injection e with e; omega)⟩
        have hk := (unhide HR).set h.2.2.2.2.2.2.2.2.2.2 ((m : Int) / 2 % 64)
        rw [er, h.2.2.2.1, h.2.1, h.2.2.1] at hk
        rw [er, h.2.2.2.1, h.2.1, h.2.2.1]
        exact hk
    · have i1 : ¬ (t : Int) < 24 := by omega
      obtain rfl : t = 24 := by omega
      clear htg ht
      go_upto_region 11 with fail
      refine wp_region_lit ?_
      refine wpList_kload rfl 49 (.tmp 1) rfl (w.heap.size + 1) rfl _ Tryd.underlying49 rfl .i64 25 infoT _ _ (unhide HR) ?_
      refine wpList_kstore rfl 49 (.tmp 0) (.tmp 30) rfl w.heap.size rfl .i64 25 (rT 24) rfl infoT _ _ (unhide HO) ?_
      intro W9 HR9 HG9
      obtain ⟨cr, hcr⟩ : ∃ cs, cs = (kc .i64 25 (rT 24)).toArray := ⟨_, rfl⟩
      rw [show kv .i64 25 (rT 24) = .agg cr by rw [hcr]]
      have HCR := hide hcr
      clear hcr
      try simp only [List.getElem_toArray, List.getElem_cons_zero, List.getElem_cons_succ, Act.put, List.setIfInBounds_toArray, List.set_cons_zero, List.set_cons_succ]
      go_wp2_with fail
      try simp only [Exit.inBlock, Exit.then]
      exact kret rfl rfl w.heap.size rfl .i64 25 _ _ (unhide HR9) _ Tryd.underlying49 rfl infoT ⟨rfl, (unhide HB).grown (unhide HG9) (unhide HB).size (fun i e => by injection e with e; omega)⟩
end Go.Proofs.YtbclhieobhfdpaaDoor
