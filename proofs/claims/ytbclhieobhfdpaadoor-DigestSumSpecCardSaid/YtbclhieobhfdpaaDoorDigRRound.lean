/- Contracts over the digest's reference: a round. -/
import Derived.Test.YtbclhieobhfdpaaDoorDigRMath
import Derived.Test.YtbclhieobhfdpaaDoorDigTwo
namespace Go.Proofs.YtbclhieobhfdpaaDoor
set_option linter.unusedSimpArgs false
set_option linter.unusedVariables false
open Go.RowKit

def cP (f : Nat → Int) (x : Nat) : Nat → Int
  | 0 => 0
  | y + 1 => X (cP f x y) (f (5 * y + x))
theorem cP_five (f : Nat → Int) (x : Nat) : cP f x 5 = cR f x := by
  show X (X (X (X (X 0 (f (5 * 0 + x))) (f (5 * 1 + x))) (f (5 * 2 + x))) (f (5 * 3 + x))) (f (5 * 4 + x)) = _
  unfold cR
  rw [show 5 * 0 + x = x by omega, show 5 * 1 + x = x + 5 by omega, show 5 * 2 + x = x + 10 by omega, show 5 * 3 + x = x + 15 by omega, show 5 * 4 + x = x + 20 by omega]
def cA (f : Nat → Int) (x y : Nat) (q : Nat) : Int := if q < x then cP f q 5 else if q = x then cP f x y else 0
theorem cA_in (f : Nat → Int) (x y : Nat) : cA f x y x = cP f x y := by unfold cA; rw [if_neg (by omega), if_pos rfl]
theorem cA_step (f : Nat → Int) (x y q : Nat) : upd (cA f x y) x (cP f x (y + 1)) q = cA f x (y + 1) q := by
  unfold upd cA
  by_cases h : q = x
  · subst h; rw [if_pos rfl, if_neg (by omega), if_pos rfl]
  · rw [if_neg h]
    by_cases hk : q < x
    · rw [if_pos hk, if_pos hk]
    · rw [if_neg hk, if_neg hk, if_neg h, if_neg h]
theorem cA_next (f : Nat → Int) (x q : Nat) : cA f x 5 q = cA f (x + 1) 0 q := by
  unfold cA
  by_cases hk : q < x
  · rw [if_pos hk, if_pos (by omega)]
  · rw [if_neg hk]
    by_cases h : q = x
    · subst h; rw [if_pos rfl, if_pos (by omega)]
    · rw [if_neg h, if_neg (by omega)]
      by_cases h2 : q = x + 1
      · subst h2; rw [if_pos rfl]; rfl
      · rw [if_neg h2]
theorem cA_end (f : Nat → Int) (q : Nat) (hq : q < 5) : cA f 5 0 q = cR f q := by
  unfold cA
  rw [if_pos hq, cP_five]
theorem infoS : (Tryd.prog.info? 48).map (·.size) = some 25 := by kernel_rfl
theorem builtS : Tryd.prog.built 48 [] = some (kc .u64 25 fun _ => 0).toArray := by kernel_rfl
theorem buildS (w : World) : (Instr.build 48 #[]).run Tryd.prog w = .ok (kv .u64 25 fun _ => 0) w := run_build w _ _ _ builtS
theorem info5 : (Tryd.prog.info? 78).map (·.size) = some 5 := by kernel_rfl
theorem built5 : Tryd.prog.built 78 [] = some (kc .u64 5 fun _ => 0).toArray := by kernel_rfl
theorem build5 (w : World) : (Instr.build 78 #[]).run Tryd.prog w = .ok (kv .u64 5 fun _ => 0) w := run_build w _ _ _ built5
/-- what stays through a round: its two arguments in their boxes, the place of its result -/
structure RF (w : World) (f : Nat → Int) (V : World) : Prop where
  l : KAt .u64 25 V w.heap.size 48 f
  r : KAt .i64 25 V (w.heap.size + 1) 49 (rT 24)
  o : KAt .u64 25 V (w.heap.size + 2) 48 (fun _ => 0)
  b : Below w.heap.size w V
theorem RF.keep {w V V' : World} {f : Nat → Int} (h : RF w f V) (hb : Below V.heap.size V V') : RF w f V' := ⟨h.l.keep hb, h.r.keep hb, h.o.keep hb, thenB h.b hb⟩
theorem RF.grown {w V V' : World} {f : Nat → Int} (h : RF w f V) {N : Nat} (hN : w.heap.size + 3 ≤ N) (hg : V.grownBy V' (some N)) : RF w f V' :=
  ⟨h.l.grown hg (by omega), h.r.grown hg (by omega), h.o.grown hg (by omega), h.b.grown hg h.b.size (fun i e => by injection e with e; omega)⟩
theorem grown_one (W : World) (b i : Nat) (v : Value) : W.grownBy (W.setCell ⟨b, i, none⟩ v) (some b) := grownSet (w := W) ⟨rfl, rfl, rfl, Nat.le_refl _, fun _ _ _ => rfl⟩ _ _
theorem rat_nat (x y : Nat) (hx : x < 5) (hy : y < 5) (w : World) : Calls Tryd.prog 53 #[.int .i64 (x : Int), .int .i64 (y : Int)] w fun e w' => e = .returned (.int .i64 ((5 * y + x : Nat) : Int)) ∧ w' = w := by
  have := rat_any (x : Int) (y : Int) (by omega) (by omega) w
  rw [show 5 * ((y : Int) % 5) + (x : Int) % 5 = ((5 * y + x : Nat) : Int) by omega] at this
  exact this
/-- behind the first loops -/
structure RG (w : World) (f : Nat → Int) (V : World) : Prop where
  f_ : RF w f V
  c : KAt .u64 5 V (w.heap.size + 3) 78 (cR f)
theorem RG.keep {w V V' : World} {f : Nat → Int} (h : RG w f V) (hb : Below V.heap.size V V') : RG w f V' := ⟨h.f_.keep hb, h.c.keep hb⟩
theorem RG.grown {w V V' : World} {f : Nat → Int} (h : RG w f V) {N : Nat} (hN : w.heap.size + 4 ≤ N) (hg : V.grownBy V' (some N)) : RG w f V' := ⟨h.f_.grown (by omega) hg, h.c.grown hg (by omega)⟩
theorem rrol_one (v : Int) (w : World) : Calls Tryd.prog 54 #[.int .u64 v, .int .i64 1] w fun e w' => e = .returned (.int .u64 (rolR v 1)) ∧ Below w.heap.size w w' := rrol_any v 1 (by decide) w
theorem bR_step (f : Nat → Int) (x y : Nat) (hy : y < 5) : upd (bR f rtN (5 * x + y)) (pR x y) (rolR (vR f x y) (rtN (5 * y + x))) = bR f rtN (5 * x + y + 1) := by
  show _ = upd (bR f rtN (5 * x + y)) (pR ((5 * x + y) / 5) ((5 * x + y) % 5)) _
  rw [show (5 * x + y) / 5 = x by omega, show (5 * x + y) % 5 = y by omega]
theorem oR_step (g : Nat → Int) (x y : Nat) (hy : y < 5) : upd (oR g (5 * x + y)) (5 * y + x) (X (g (5 * y + x)) (An (X (g (5 * y + (x + 1) % 5)) 18446744073709551615) (g (5 * y + (x + 2) % 5)))) = oR g (5 * x + y + 1) := by
  show _ = upd (oR g (5 * x + y)) (5 * ((5 * x + y) % 5) + (5 * x + y) / 5) _
  rw [show (5 * x + y) / 5 = x by omega, show (5 * x + y) % 5 = y by omega]
/-- the numbers of the second loop's round -/
structure NB (x y q x4 xn s2 s3 s5 pp a4 a1 : Nat) (zz : Int) : Prop where
  wa4 : IntKind.i64.wrap ((x : Int) + 4) = (a4 : Int)
  ta4 : ((a4 : Int)).tmod 5 = (x4 : Int)
  wa1 : IntKind.i64.wrap ((x : Int) + 1) = (a1 : Int)
  ta1 : ((a1 : Int)).tmod 5 = (xn : Int)
  ws2 : IntKind.i64.wrap (2 * (x : Int)) = (s2 : Int)
  ws3 : IntKind.i64.wrap (3 * (y : Int)) = (s3 : Int)
  ws5 : IntKind.i64.wrap ((s2 : Int) + (s3 : Int)) = (s5 : Int)
  wzz : IntKind.i64.wrap ((s5 : Int) - 5) = zz
  z0 : -5 ≤ zz
  z1 : zz ≤ 1000
  ez : 5 * (zz % 5) + (y : Int) % 5 = (pp : Int)
  q1 : q < 25
  c41 : x4 < 5
  c11 : xn < 5
  p1 : pp < 25
  eq_ : q = 5 * y + x
  e4 : x4 = (x + 4) % 5
  en : xn = (x + 1) % 5
  ep : pp = pR x y
theorem nb_mk (x y : Nat) (hx : x < 5) (hy : y < 5) : ∃ q x4 xn s2 s3 s5 pp a4 a1 zz, NB x y q x4 xn s2 s3 s5 pp a4 a1 zz := by
  refine ⟨5 * y + x, (x + 4) % 5, (x + 1) % 5, 2 * x, 3 * y, 2 * x + 3 * y, pR x y, x + 4, x + 1, ((2 * x + 3 * y : Nat) : Int) - 5, ?_⟩
  have hp : pR x y = 5 * ((2 * x + 3 * y) % 5) + y := rfl
  constructor
  · exact (IntWalk.i64_in _ (by omega)).trans (by omega)
  · exact (Int.tmod_eq_emod_of_nonneg (by omega)).trans (by omega)
  · exact (IntWalk.i64_in _ (by omega)).trans (by omega)
  · exact (Int.tmod_eq_emod_of_nonneg (by omega)).trans (by omega)
  · exact (IntWalk.i64_in _ (by omega)).trans (by omega)
  · exact (IntWalk.i64_in _ (by omega)).trans (by omega)
  · exact (IntWalk.i64_in _ (by omega)).trans (by omega)
  · exact (IntWalk.i64_in _ (by omega)).trans (by omega)
  · omega
  · omega
  · have hy5 : (y : Int) % 5 = (y : Int) := by omega
    have hm : (((2 * x + 3 * y : Nat) : Int) - 5) % 5 = (((2 * x + 3 * y) % 5 : Nat) : Int) := by
      generalize 2 * x + 3 * y = n
      omega
    rw [hp, hm, hy5]
    generalize (2 * x + 3 * y) % 5 = n
    omega
  · omega
  · omega
  · omega
  · rw [hp]; omega
  · rfl
  · rfl
  · rfl
  · rfl
theorem lt_int {a b : Nat} (h : a < b) : (a : Int) < (b : Int) := by omega
/-- the numbers of the third loop's round -/
structure NC (x y q p1 p2 a1 a2 : Nat) : Prop where
  wa1 : IntKind.i64.wrap ((x : Int) + 1) = (a1 : Int)
  wa2 : IntKind.i64.wrap ((x : Int) + 2) = (a2 : Int)
  z1 : a1 ≤ 1000
  z2 : a2 ≤ 1000
  e1 : 5 * ((y : Int) % 5) + (a1 : Int) % 5 = (p1 : Int)
  e2 : 5 * ((y : Int) % 5) + (a2 : Int) % 5 = (p2 : Int)
  q1 : q < 25
  l1 : p1 < 25
  l2 : p2 < 25
  eq_ : q = 5 * y + x
  en : p1 = 5 * y + (x + 1) % 5
  em : p2 = 5 * y + (x + 2) % 5
theorem nc_mk (x y : Nat) (hx : x < 5) (hy : y < 5) : ∃ q p1 p2 a1 a2, NC x y q p1 p2 a1 a2 := by
  refine ⟨5 * y + x, 5 * y + (x + 1) % 5, 5 * y + (x + 2) % 5, x + 1, x + 2, ?_⟩
  constructor
  · exact (IntWalk.i64_in _ (by omega)).trans (by omega)
  · exact (IntWalk.i64_in _ (by omega)).trans (by omega)
  · omega
  · omega
  · omega
  · omega
  · omega
  · omega
  · omega
  · rfl
  · rfl
  · rfl
def BF (N : Nat) (g : Nat → Int) (V : World) : Prop := KAt .u64 25 V N 48 g
/-- in the third loops -/
structure RH (w : World) (f : Nat → Int) (N : Nat) (g : Nat → Int) (V : World) : Prop where
  g_ : RF w f V
  k : BF N g V
theorem RH.keep {w V V' : World} {f g : Nat → Int} {N : Nat} (h : RH w f N g V) (hb : Below V.heap.size V V') : RH w f N g V' := ⟨h.g_.keep hb, KAt.keep h.k hb⟩
theorem RH.grown {w V V' : World} {f g : Nat → Int} {N : Nat} (h : RH w f N g V) {M : Nat} (hN : w.heap.size + 4 ≤ N) (hM : N < M) (hg : V.grownBy V' (some M)) : RH w f N g V' := ⟨h.g_.grown (by omega) hg, KAt.grown h.k hg (by omega)⟩
/-- worlds with the argument in its box -/
def LF (w : World) (f : Nat → Int) (V : World) : Prop := KAt .u64 25 V w.heap.size 48 f

set_option maxRecDepth 100000 in
set_option maxHeartbeats 4000000 in
theorem rround_any (w : World) (f : Nat → Int) (kk : Int) :
    Calls Tryd.prog 31 #[kv .u64 25 f, kv .i64 25 (rT 24), .int .u64 kk] w fun x w' => x = .returned (kv .u64 25 (rndR f kk)) ∧ Below w.heap.size w w' := by
  obtain ⟨cl, hcl⟩ : ∃ cs, cs = (kc .u64 25 f).toArray := ⟨_, rfl⟩
  obtain ⟨cr, hcr⟩ : ∃ cs, cs = (kc .i64 25 (rT 24)).toArray := ⟨_, rfl⟩
  rw [show kv .u64 25 f = .agg cl by rw [hcl], show kv .i64 25 (rT 24) = .agg cr by rw [hcr]]
  have hsl : cl.size = 25 := by rw [hcl, List.size_toArray, kc_length]
  have hsr : cr.size = 25 := by rw [hcr, List.size_toArray, kc_length]
  have HCL := hide hcl; have HCR := hide hcr
  clear hcl hcr
  go_enter Tryd.func31, Tryd.ntmps31
  go_upto_region 1 with fail
  generalize hX1 : w.alloc _ = W1
  have hB1 : Below w.heap.size w W1 := hX1 ▸ (Below.refl _ _).alloc (Nat.le_refl _) _
  have ho1 : KAt .u64 25 W1 w.heap.size 48 f := newK w W1 (by rw [← hX1, ← unhide HCL]; rfl)
  have hz1 : W1.heap.size = w.heap.size + 1 := by rw [← hX1]; show (w.heap.push _).size = _; rw [Array.size_push]
  generalize hX2 : W1.alloc _ = W2
  have hB2 : Below W1.heap.size W1 W2 := hX2 ▸ (Below.refl _ _).alloc (Nat.le_refl _) _
  have ho2 : KAt .i64 25 W2 W1.heap.size 49 (rT 24) := newK W1 W2 (by rw [← hX2, ← unhide HCR]; rfl)
  have hz2 : W2.heap.size = w.heap.size + 2 := by rw [← hX2]; show (W1.heap.push _).size = _; rw [Array.size_push]; omega
  generalize hX3 : W2.alloc _ = W3
  have hB3 : Below W2.heap.size W2 W3 := hX3 ▸ (Below.refl _ _).alloc (Nat.le_refl _) _
  have ho3 : KAt .u64 25 W3 W2.heap.size 48 (fun _ => 0) := newK W2 W3 (by rw [← hX3]; rfl)
  have hz3 : W3.heap.size = w.heap.size + 3 := by rw [← hX3]; show (W2.heap.push _).size = _; rw [Array.size_push]; omega
  rw [hz1] at ho2
  rw [hz2] at ho3
  have hRF : RF w f W3 := ⟨(ho1.keep hB2).keep hB3, ho2.keep hB3, ho3, thenB (thenB hB1 hB2) hB3⟩
  have HRF := hide hRF
  clear hX1 hX2 hX3 hB1 hB2 hB3 ho1 ho2 ho3 hz1 hz2 hRF
  refine wp_region_lit ?_
  refine wpList_build0 rfl 78 rfl (kv .u64 5 fun _ => 0) (build5 _) ?_
  obtain ⟨cz, hcz⟩ : ∃ cs, cs = (kc .u64 5 fun _ => 0).toArray := ⟨_, rfl⟩
  rw [show kv .u64 5 (fun _ => 0) = .agg cz by rw [hcz]]
  have HCZ := hide hcz
  clear hcz
  refine wpList_plain rfl fun Kt hKt => ?_
  go_simp
  refine hKt _ _ ?_
  clear hKt Kt
  generalize hX4 : W3.alloc _ = W4
  have hB4 : Below W3.heap.size W3 W4 := hX4 ▸ (Below.refl _ _).alloc (Nat.le_refl _) _
  have hc4 : KAt .u64 5 W4 W3.heap.size 78 (fun _ => 0) := newK W3 W4 (by rw [← hX4]; rfl)
  have HRF4 := hide ((unhide HRF).keep hB4)
  rw [hz3] at hc4
  have HC4 := hide hc4
  clear hX4 hB4 hc4 hz3 HRF
  refine wpList_kstore rfl 78 (.tmp 7) (.tmp 17) rfl (w.heap.size + 3) rfl .u64 5 (fun _ => 0) (show Value.agg cz = _ by rw [unhide HCZ]) info5 _ _ (unhide HC4) ?_
  intro W5 HC5 HG5
  have HRF5 := hide ((unhide HRF4).grown (Nat.le_refl _) (unhide HG5))
  clear HG5 HRF4 HC4
  try simp only [List.getElem_toArray, List.getElem_cons_zero, List.getElem_cons_succ, Act.put, List.setIfInBounds_toArray, List.set_cons_zero, List.set_cons_succ]
  go_wp2_with fail
  go_loopg [8] 5 (fun g y8 wx => ∃ x : Nat, y8 = .int .i64 (x : Int) ∧ x + g = 5 ∧ KAt .u64 5 wx (w.heap.size + 3) 78 (cA f x 0) ∧ RF w f wx)
  case atStart => exact ⟨0, rfl, by omega, (unhide HC5).fn (fun j _ => by unfold cA; rw [if_neg (by omega)]; split <;> rfl), unhide HRF5⟩
  case round =>
    clear HC5 HRF5
    obtain ⟨x, rfl, hxg, hc, hrf⟩ := hrel
    have HC := hide hc; have HRF := hide hrf
    clear hc hrf
    by_cases hx : x < 5
    · obtain ⟨g, rfl⟩ : ∃ g, gk = g + 1 := ⟨gk - 1, by omega⟩
      have x1 : (x : Int) < 5 := by omega
      have x0 : (0 : Int) ≤ (x : Int) := Int.natCast_nonneg _
      have wx : IntKind.i64.wrap ((x : Int) + 1) = ((x + 1 : Nat) : Int) := (IntWalk.i64_in _ (by omega)).trans (by omega)
      have HX : Hid (x + (g + 1) = 5 ∧ x < 5) := ⟨hxg, hx⟩
      clear hxg hx
      go_wp2_with fail
      go_loopg [9] 5 (fun g' y9 wx => ∃ y : Nat, y9 = .int .i64 (y : Int) ∧ y + g' = 5 ∧ KAt .u64 5 wx (w.heap.size + 3) 78 (cA f x y) ∧ RF w f wx)
      case atStart => exact ⟨0, rfl, by omega, unhide HC, unhide HRF⟩
      case round =>
        clear HC HRF
        obtain ⟨y, rfl, hyg, hc, hrf⟩ := hrel
        have HC := hide hc; have HRF := hide hrf
        clear hc hrf
        by_cases hy : y < 5
        · obtain ⟨g2, rfl⟩ : ∃ g, gk = g + 1 := ⟨gk - 1, by omega⟩
          have y1 : (y : Int) < 5 := by omega
          have y0 : (0 : Int) ≤ (y : Int) := Int.natCast_nonneg _
          have wy : IntKind.i64.wrap ((y : Int) + 1) = ((y + 1 : Nat) : Int) := (IntWalk.i64_in _ (by omega)).trans (by omega)
          obtain ⟨q, hq⟩ : ∃ q, q = 5 * y + x := ⟨_, rfl⟩
          have q1 : q < 25 := by have := unhide HX; omega
          have q2 : (q : Int) < 25 := by omega
          have q0 : (0 : Int) ≤ (q : Int) := Int.natCast_nonneg _
          have HAT : Hid (∀ V, Calls Tryd.prog 53 #[.int .i64 (x : Int), .int .i64 (y : Int)] V fun e w' => e = .returned (.int .i64 (q : Int)) ∧ w' = V) := fun V => by rw [hq]; exact rat_nat x y (unhide HX).2 hy V
          have HY : Hid (y + (g2 + 1) = 5 ∧ y < 5 ∧ q = 5 * y + x ∧ q < 25) := ⟨hyg, hy, hq, q1⟩
          clear hyg hy hq q1
          go_wp2_with fail
          obtain ⟨W, hW⟩ : ∃ W, W = wr.drewN 1 := ⟨_, rfl⟩
          have HW : Hid (W = wr.drewN 1) := hW
          have HCW := hide ((unhide HC).keep (below_named HW))
          have HRFW := hide ((unhide HRF).keep (below_named HW))
          have hcC := (unhide HCW).cell (unhide HX).2
          rw [cA_in] at hcC
          have hcF := (unhide HCW).free x
          have hSW : LF w f W := (unhide HRFW).l
          have hfL := fun V (hV : LF w f V) => KAt.cell hV (unhide HY).2.2.2
          clear hW HC HRF
          refine held (S := LF w f) W HW (by kernel_rfl) ?_
          refine wpAnyH_take (i := 0) (v := ?_) rfl (by kernel_rfl) (by kernel_rfl) (by kernel_rfl) (fun _ _ _ h => h) (Or.inl ⟨by kernel_rfl, ?_⟩) (by assumption) ?_
          rotate_left
          · intro Wt hSt
            go_simp
            try with_reducible rfl
          try simp only [List.getElem_toArray, List.getElem_cons_zero, List.getElem_cons_succ, Act.put, List.setIfInBounds_toArray, List.set_cons_zero, List.set_cons_succ]
          refine wpAnyH_take (i := 1) (v := ?_) rfl (by kernel_rfl) (by kernel_rfl) (by kernel_rfl) (fun _ _ _ h => h) (Or.inl ⟨by kernel_rfl, ?_⟩) (by assumption) ?_
          rotate_left
          · intro Wt hSt
            go_simp
            try with_reducible rfl
          try simp only [List.getElem_toArray, List.getElem_cons_zero, List.getElem_cons_succ, Act.put, List.setIfInBounds_toArray, List.set_cons_zero, List.set_cons_succ]
          refine wpAnyH_take (i := 2) (v := ?_) rfl (by kernel_rfl) (by kernel_rfl) (by kernel_rfl) (fun _ _ _ h => h) (Or.inl ⟨by kernel_rfl, ?_⟩) (by assumption) ?_
          rotate_left
          · intro Wt hSt
            go_simp
            try with_reducible rfl
          try simp only [List.getElem_toArray, List.getElem_cons_zero, List.getElem_cons_succ, Act.put, List.setIfInBounds_toArray, List.set_cons_zero, List.set_cons_succ]
          refine wpAnyH_take (i := 4) (v := ?_) rfl (by kernel_rfl) (by kernel_rfl) (by kernel_rfl) (fun _ _ _ h => h) (Or.inl ⟨by kernel_rfl, ?_⟩) (by assumption) ?_
          rotate_left
          · intro Wt hSt
            go_simp
            try with_reducible rfl
          try simp only [List.getElem_toArray, List.getElem_cons_zero, List.getElem_cons_succ, Act.put, List.setIfInBounds_toArray, List.set_cons_zero, List.set_cons_succ]
          refine wpAnyH_take (i := 5) (v := ?_) rfl (by kernel_rfl) (by kernel_rfl) (by kernel_rfl) (fun _ _ _ h => h) (Or.inl ⟨by kernel_rfl, ?_⟩) (by assumption) ?_
          rotate_left
          · intro Wt hSt
            go_simp
            try with_reducible rfl
          try simp only [List.getElem_toArray, List.getElem_cons_zero, List.getElem_cons_succ, Act.put, List.setIfInBounds_toArray, List.set_cons_zero, List.set_cons_succ]
          refine wpAnyH_two 3 6 _ _ rfl rfl (by kernel_rfl) (by kernel_rfl) (by kernel_rfl) ?_ ?_
          · intro K' hK
            go_simp
            refine hK _ _ hSW ?_
            clear hK K'
            try simp only [List.getElem_toArray, List.getElem_cons_zero, List.getElem_cons_succ, Act.put, List.setIfInBounds_toArray, List.set_cons_zero, List.set_cons_succ]
            refine wpAnyH_one 6 _ rfl (by kernel_rfl) (by kernel_rfl) ?_
            intro K' hK
            go_simp
            refine ((unhide HAT) W).mono ?_; rintro e0 V ⟨rfl, rfl⟩
            dsimp only
            refine hK _ _ hSW ?_
            clear hK K'
            try simp only [List.getElem_toArray, List.getElem_cons_zero, List.getElem_cons_succ, Act.put, List.setIfInBounds_toArray, List.set_cons_zero, List.set_cons_succ]
            refine wpAnyH_take (i := 7) (v := ?_) rfl (by kernel_rfl) (by kernel_rfl) (by kernel_rfl) (fun _ _ _ h => h) (Or.inl ⟨by kernel_rfl, ?_⟩) (by assumption) ?_
            rotate_left
            · intro Wt hSt
              go_simp
              try with_reducible rfl
            try simp only [List.getElem_toArray, List.getElem_cons_zero, List.getElem_cons_succ, Act.put, List.setIfInBounds_toArray, List.set_cons_zero, List.set_cons_succ]
            refine wpAnyH_take (i := 8) (v := ?_) rfl (by kernel_rfl) (by kernel_rfl) (by kernel_rfl) (fun _ _ _ h => h) (Or.inl ⟨by kernel_rfl, ?_⟩) (by assumption) ?_
            rotate_left
            · intro Wt hSt
              go_simp
              try with_reducible rfl
            try simp only [List.getElem_toArray, List.getElem_cons_zero, List.getElem_cons_succ, Act.put, List.setIfInBounds_toArray, List.set_cons_zero, List.set_cons_succ]
            refine wpAnyH_take (i := 9) (v := ?_) rfl (by kernel_rfl) (by kernel_rfl) (by kernel_rfl) (fun _ _ _ h => h) (Or.inl ⟨by kernel_rfl, ?_⟩) (by assumption) ?_
            rotate_left
            · intro Wt hSt
              go_simp
              try with_reducible rfl
            try simp only [List.getElem_toArray, List.getElem_cons_zero, List.getElem_cons_succ, Act.put, List.setIfInBounds_toArray, List.set_cons_zero, List.set_cons_succ]
            refine wpAnyH_take (i := 10) (v := ?_) rfl (by kernel_rfl) (by kernel_rfl) (by kernel_rfl) (fun _ _ _ h => h) (Or.inl ⟨by kernel_rfl, ?_⟩) (by assumption) ?_
            rotate_left
            · intro Wt hSt
              go_simp
              try with_reducible rfl
            try simp only [List.getElem_toArray, List.getElem_cons_zero, List.getElem_cons_succ, Act.put, List.setIfInBounds_toArray, List.set_cons_zero, List.set_cons_succ]
            refine wpAnyH_chainOf [11] _ _ _ (by kernel_rfl) (by kernel_rfl) ?_
            simp only [List.filterMap_cons, List.filterMap_nil, List.getElem?_toArray, List.getElem?_cons_zero, List.getElem?_cons_succ]
            refine wpChain_step rfl fun K' hK => ?_
            go_simp
            have hs9 : LF w f (V.setCell ⟨w.heap.size + 3, x, none⟩ (.int .u64 (X (cP f x y) (f q)))) := KAt.grown (hSW) (grown_one V _ _ _) (by omega)
            refine hK _ _ hs9 (wpChain_nil ?_)
            clear hK K' hs9
            go_wp2_with fail
            go_roundg g2
            case measure => omega
            case rel =>
              have h := unhide HY
              have hx := unhide HX
              refine ⟨y + 1, rfl, by omega, ((unhide HCW).set hx.2 (X (cP f x y) (f q))).fn (fun j _ => ?_), (unhide HRFW).grown (Nat.le_refl _) (grown_one V _ _ _)⟩
              rw [← cA_step f x y j, h.2.2.1]
              rfl
          · intro K' hK
            go_simp
            refine ((unhide HAT) W).mono ?_; rintro e0 V ⟨rfl, rfl⟩
            dsimp only
            refine hK _ _ hSW ?_
            clear hK K'
            try simp only [List.getElem_toArray, List.getElem_cons_zero, List.getElem_cons_succ, Act.put, List.setIfInBounds_toArray, List.set_cons_zero, List.set_cons_succ]
            refine wpAnyH_take (i := 7) (v := ?_) rfl (by kernel_rfl) (by kernel_rfl) (by kernel_rfl) (fun _ _ _ h => h) (Or.inl ⟨by kernel_rfl, ?_⟩) (by assumption) ?_
            rotate_left
            · intro Wt hSt
              go_simp
              try with_reducible rfl
            try simp only [List.getElem_toArray, List.getElem_cons_zero, List.getElem_cons_succ, Act.put, List.setIfInBounds_toArray, List.set_cons_zero, List.set_cons_succ]
            refine wpAnyH_take (i := 8) (v := ?_) rfl (by kernel_rfl) (by kernel_rfl) (by kernel_rfl) (fun _ _ _ h => h) (Or.inl ⟨by kernel_rfl, ?_⟩) (by assumption) ?_
            rotate_left
            · intro Wt hSt
              go_simp
              try with_reducible rfl
            try simp only [List.getElem_toArray, List.getElem_cons_zero, List.getElem_cons_succ, Act.put, List.setIfInBounds_toArray, List.set_cons_zero, List.set_cons_succ]
            refine wpAnyH_one 3 _ rfl (by kernel_rfl) (by kernel_rfl) ?_
            intro K' hK
            go_simp
            refine hK _ _ hSW ?_
            clear hK K'
            try simp only [List.getElem_toArray, List.getElem_cons_zero, List.getElem_cons_succ, Act.put, List.setIfInBounds_toArray, List.set_cons_zero, List.set_cons_succ]
            refine wpAnyH_take (i := 9) (v := ?_) rfl (by kernel_rfl) (by kernel_rfl) (by kernel_rfl) (fun _ _ _ h => h) (Or.inl ⟨by kernel_rfl, ?_⟩) (by assumption) ?_
            rotate_left
            · intro Wt hSt
              go_simp
              try with_reducible rfl
            try simp only [List.getElem_toArray, List.getElem_cons_zero, List.getElem_cons_succ, Act.put, List.setIfInBounds_toArray, List.set_cons_zero, List.set_cons_succ]
            refine wpAnyH_take (i := 10) (v := ?_) rfl (by kernel_rfl) (by kernel_rfl) (by kernel_rfl) (fun _ _ _ h => h) (Or.inl ⟨by kernel_rfl, ?_⟩) (by assumption) ?_
            rotate_left
            · intro Wt hSt
              go_simp
              try with_reducible rfl
            try simp only [List.getElem_toArray, List.getElem_cons_zero, List.getElem_cons_succ, Act.put, List.setIfInBounds_toArray, List.set_cons_zero, List.set_cons_succ]
            refine wpAnyH_chainOf [11] _ _ _ (by kernel_rfl) (by kernel_rfl) ?_
            simp only [List.filterMap_cons, List.filterMap_nil, List.getElem?_toArray, List.getElem?_cons_zero, List.getElem?_cons_succ]
            refine wpChain_step rfl fun K' hK => ?_
            go_simp
            have hs9 : LF w f (V.setCell ⟨w.heap.size + 3, x, none⟩ (.int .u64 (X (cP f x y) (f q)))) := KAt.grown (hSW) (grown_one V _ _ _) (by omega)
            refine hK _ _ hs9 (wpChain_nil ?_)
            clear hK K' hs9
            go_wp2_with fail
            go_roundg g2
            case measure => omega
            case rel =>
              have h := unhide HY
              have hx := unhide HX
              refine ⟨y + 1, rfl, by omega, ((unhide HCW).set hx.2 (X (cP f x y) (f q))).fn (fun j _ => ?_), (unhide HRFW).grown (Nat.le_refl _) (grown_one V _ _ _)⟩
              rw [← cA_step f x y j, h.2.2.1]
              rfl
        · have y1 : ¬ (y : Int) < 5 := by omega
          obtain rfl : y = 5 := by omega
          clear hyg hy
          go_wp2_with fail
          go_roundg g
          case measure => omega
          case rel => exact ⟨x + 1, rfl, by have := unhide HX; omega, (unhide HC).fn (fun q _ => cA_next f x q), unhide HRF⟩
    · have x1 : ¬ (x : Int) < 5 := by omega
      obtain rfl : x = 5 := by omega
      have HCE := hide ((unhide HC).fn (cA_end f))
      clear hxg hx HC
      go_upto_region 9 with fail
      have HRG : Hid (RG w f wr) := ⟨unhide HRF, unhide HCE⟩
      clear HRF HCE
      refine wp_region_lit ?_
      refine wpList_build0 rfl 48 rfl (kv .u64 25 fun _ => 0) (buildS _) ?_
      obtain ⟨cy, hcy⟩ : ∃ cs, cs = (kc .u64 25 fun _ => 0).toArray := ⟨_, rfl⟩
      rw [show kv .u64 25 (fun _ => 0) = .agg cy by rw [hcy]]
      have HCY := hide hcy
      clear hcy
      refine wpList_plain rfl fun Kt hKt => ?_
      go_simp
      refine hKt _ _ ?_
      clear hKt Kt
      generalize hX6 : wr.alloc _ = W6
      have hB6 : Below wr.heap.size wr W6 := hX6 ▸ (Below.refl _ _).alloc (Nat.le_refl _) _
      have HN6 := hide (newK wr W6 (k := .u64) (n := 25) (t := 48) (f := fun _ => 0) (by rw [← hX6]; rfl))
      have HRG6 := hide ((unhide HRG).keep hB6)
      obtain ⟨N, hN⟩ : ∃ N, N = wr.heap.size := ⟨_, rfl⟩
      have HZ : Hid (w.heap.size + 4 ≤ N) := hN ▸ (unhide HRG).c.lt
      rw [← hN] at HN6 ⊢
      clear hX6 hB6 hN HRG
      refine wpList_kstore rfl 48 (.tmp 10) (.tmp 37) rfl N rfl .u64 25 (fun _ => 0) (show Value.agg cy = _ by rw [unhide HCY]) infoS _ _ (unhide HN6) ?_
      intro W7 HK7 HG7
      have HRG7 := hide ((unhide HRG6).grown (unhide HZ) (unhide HG7))
      clear HG7 HN6 HRG6
      try simp only [List.getElem_toArray, List.getElem_cons_zero, List.getElem_cons_succ, Act.put, List.setIfInBounds_toArray, List.set_cons_zero, List.set_cons_succ]
      go_wp2_with fail
      go_loopg [11] 5 (fun g y11 wx => ∃ x : Nat, y11 = .int .i64 (x : Int) ∧ x + g = 5 ∧ KAt .u64 25 wx N 48 (bR f rtN (5 * x)) ∧ RG w f wx)
      case atStart => exact ⟨0, rfl, by omega, (unhide HK7).fn (fun j _ => rfl), unhide HRG7⟩
      case round =>
        clear HK7 HRG7
        obtain ⟨x, rfl, hxg, hk, hrg⟩ := hrel
        have HK := hide hk; have HRG := hide hrg
        clear hk hrg
        by_cases hx : x < 5
        · obtain ⟨g, rfl⟩ : ∃ g, gk = g + 1 := ⟨gk - 1, by omega⟩
          have x1 : (x : Int) < 5 := by omega
          have x0 : (0 : Int) ≤ (x : Int) := Int.natCast_nonneg _
          have wx : IntKind.i64.wrap ((x : Int) + 1) = ((x + 1 : Nat) : Int) := (IntWalk.i64_in _ (by omega)).trans (by omega)
          have HX : Hid (x + (g + 1) = 5 ∧ x < 5) := ⟨hxg, hx⟩
          clear hxg hx
          go_wp2_with fail
          go_loopg [12] 5 (fun g' y12 wx => ∃ y : Nat, y12 = .int .i64 (y : Int) ∧ y + g' = 5 ∧ KAt .u64 25 wx N 48 (bR f rtN (5 * x + y)) ∧ RG w f wx)
          case atStart => exact ⟨0, rfl, by omega, unhide HK, unhide HRG⟩
          case round =>
            clear HK HRG
            obtain ⟨y, rfl, hyg, hk, hrg⟩ := hrel
            have HK := hide hk; have HRG := hide hrg
            clear hk hrg
            by_cases hy : y < 5
            · obtain ⟨g2, rfl⟩ : ∃ g, gk = g + 1 := ⟨gk - 1, by omega⟩
              have y1 : (y : Int) < 5 := lt_int hy
              have y0 : (0 : Int) ≤ (y : Int) := Int.natCast_nonneg _
              have wy : IntKind.i64.wrap ((y : Int) + 1) = ((y + 1 : Nat) : Int) := (IntWalk.i64_in _ (by omega)).trans (by omega)
              clear wx
              obtain ⟨q, x4, xn, s2, s3, s5, pp, a4, a1, zz, nb⟩ := nb_mk x y (unhide HX).2 hy
              obtain ⟨hr64, hrt⟩ := rtN_lt q nb.q1
              have HY : Hid (y + (g2 + 1) = 5 ∧ y < 5 ∧ NB x y q x4 xn s2 s3 s5 pp a4 a1 zz ∧ rtN q < 64 ∧ rT 24 q = (rtN q : Int)) := ⟨hyg, hy, nb, hr64, hrt⟩
              have wa4 := nb.wa4
              have ta4 := nb.ta4
              have wa1 := nb.wa1
              have ta1 := nb.ta1
              have ws2 := nb.ws2
              have ws3 := nb.ws3
              have ws5 := nb.ws5
              have wzz := nb.wzz
              have q2 : (q : Int) < 25 := lt_int nb.q1
              have q0 : (0 : Int) ≤ (q : Int) := Int.natCast_nonneg _
              have c40 : (0 : Int) ≤ (x4 : Int) := Int.natCast_nonneg _
              have c41 : (x4 : Int) < 5 := lt_int nb.c41
              have c10 : (0 : Int) ≤ (xn : Int) := Int.natCast_nonneg _
              have c11 : (xn : Int) < 5 := lt_int nb.c11
              have p1 : (pp : Int) < 25 := lt_int nb.p1
              have p0 : (0 : Int) ≤ (pp : Int) := Int.natCast_nonneg _
              have HAT : Hid (∀ V, Calls Tryd.prog 53 #[.int .i64 (x : Int), .int .i64 (y : Int)] V fun e w' => e = .returned (.int .i64 (q : Int)) ∧ w' = V) := fun V => by rw [nb.eq_]; exact rat_nat x y (unhide HX).2 hy V
              have HATP : Hid (∀ V, Calls Tryd.prog 53 #[.int .i64 (y : Int), .int .i64 zz] V fun e w' => e = .returned (.int .i64 (pp : Int)) ∧ w' = V) := fun V => by
                have := rat_any (y : Int) zz ⟨by omega, by omega⟩ ⟨nb.z0, nb.z1⟩ V
                rw [nb.ez] at this
                exact this
              clear hyg hy nb hr64 hrt
              go_wp2_with fail
              obtain ⟨W, hW⟩ : ∃ W, W = wr.drewN 1 := ⟨_, rfl⟩
              have HW : Hid (W = wr.drewN 1) := hW
              have HKW := hide ((unhide HK).keep (below_named HW))
              have hSW : RG w f W := (unhide HRG).keep (below_named HW)
              have hfL := fun V (hV : RG w f V) => KAt.cell hV.f_.l (unhide HY).2.2.1.q1
              have hf4 := fun V (hV : RG w f V) => KAt.cell hV.c (unhide HY).2.2.1.c41
              have hf1 := fun V (hV : RG w f V) => KAt.cell hV.c (unhide HY).2.2.1.c11
              clear hW HK HRG
              refine held (S := RG w f) W HW (by kernel_rfl) ?_
              refine wpAnyH_take (i := 0) (v := ?_) rfl (by kernel_rfl) (by kernel_rfl) (by kernel_rfl) (fun _ _ _ h => h) (Or.inl ⟨by kernel_rfl, ?_⟩) (by assumption) ?_
              rotate_left
              · intro Wt hSt
                go_simp
                try with_reducible rfl
              try simp only [List.getElem_toArray, List.getElem_cons_zero, List.getElem_cons_succ, Act.put, List.setIfInBounds_toArray, List.set_cons_zero, List.set_cons_succ]
              refine wpAnyH_take (i := 1) (v := ?_) rfl (by kernel_rfl) (by kernel_rfl) (by kernel_rfl) (fun _ _ _ h => h) (Or.inl ⟨by kernel_rfl, ?_⟩) (by assumption) ?_
              rotate_left
              · intro Wt hSt
                go_simp
                try with_reducible rfl
              try simp only [List.getElem_toArray, List.getElem_cons_zero, List.getElem_cons_succ, Act.put, List.setIfInBounds_toArray, List.set_cons_zero, List.set_cons_succ]
              refine wpAnyH_take (i := 5) (v := ?_) rfl (by kernel_rfl) (by kernel_rfl) (by kernel_rfl) (fun _ _ _ h => h) (Or.inl ⟨by kernel_rfl, ?_⟩) (by assumption) ?_
              rotate_left
              · intro Wt hSt
                go_simp
                try with_reducible rfl
              try simp only [List.getElem_toArray, List.getElem_cons_zero, List.getElem_cons_succ, Act.put, List.setIfInBounds_toArray, List.set_cons_zero, List.set_cons_succ]
              refine wpAnyH_take (i := 6) (v := ?_) rfl (by kernel_rfl) (by kernel_rfl) (by kernel_rfl) (fun _ _ _ h => h) (Or.inl ⟨by kernel_rfl, ?_⟩) (by assumption) ?_
              rotate_left
              · intro Wt hSt
                go_simp
                try with_reducible rfl
              try simp only [List.getElem_toArray, List.getElem_cons_zero, List.getElem_cons_succ, Act.put, List.setIfInBounds_toArray, List.set_cons_zero, List.set_cons_succ]
              refine wpAnyH_take (i := 7) (v := ?_) rfl (by kernel_rfl) (by kernel_rfl) (by kernel_rfl) (fun _ _ _ h => h) (Or.inl ⟨by kernel_rfl, ?_⟩) (by assumption) ?_
              rotate_left
              · intro Wt hSt
                go_simp
                try with_reducible rfl
              try simp only [List.getElem_toArray, List.getElem_cons_zero, List.getElem_cons_succ, Act.put, List.setIfInBounds_toArray, List.set_cons_zero, List.set_cons_succ]
              refine wpAnyH_take (i := 8) (v := ?_) rfl (by kernel_rfl) (by kernel_rfl) (by kernel_rfl) (fun _ _ _ h => h) (Or.inl ⟨by kernel_rfl, ?_⟩) (by assumption) ?_
              rotate_left
              · intro Wt hSt
                go_simp
                try with_reducible rfl
              try simp only [List.getElem_toArray, List.getElem_cons_zero, List.getElem_cons_succ, Act.put, List.setIfInBounds_toArray, List.set_cons_zero, List.set_cons_succ]
              refine wpAnyH_take (i := 9) (v := ?_) rfl (by kernel_rfl) (by kernel_rfl) (by kernel_rfl) (fun _ _ _ h => h) (Or.inl ⟨by kernel_rfl, ?_⟩) (by assumption) ?_
              rotate_left
              · intro Wt hSt
                go_simp
                try with_reducible rfl
              try simp only [List.getElem_toArray, List.getElem_cons_zero, List.getElem_cons_succ, Act.put, List.setIfInBounds_toArray, List.set_cons_zero, List.set_cons_succ]
              refine wpAnyH_take (i := 11) (v := ?_) rfl (by kernel_rfl) (by kernel_rfl) (by kernel_rfl) (fun _ _ _ h => h) (Or.inl ⟨by kernel_rfl, ?_⟩) (by assumption) ?_
              rotate_left
              · intro Wt hSt
                go_simp
                try with_reducible rfl
              try simp only [List.getElem_toArray, List.getElem_cons_zero, List.getElem_cons_succ, Act.put, List.setIfInBounds_toArray, List.set_cons_zero, List.set_cons_succ]
              refine wpAnyH_take (i := 12) (v := ?_) rfl (by kernel_rfl) (by kernel_rfl) (by kernel_rfl) (fun _ _ _ h => h) (Or.inl ⟨by kernel_rfl, ?_⟩) (by assumption) ?_
              rotate_left
              · intro Wt hSt
                go_simp
                try with_reducible rfl
              try simp only [List.getElem_toArray, List.getElem_cons_zero, List.getElem_cons_succ, Act.put, List.setIfInBounds_toArray, List.set_cons_zero, List.set_cons_succ]
              refine wpAnyH_take (i := 13) (v := ?_) rfl (by kernel_rfl) (by kernel_rfl) (by kernel_rfl) (fun _ _ _ h => h) (Or.inl ⟨by kernel_rfl, ?_⟩) (by assumption) ?_
              rotate_left
              · intro Wt hSt
                go_simp
                try with_reducible rfl
              try simp only [List.getElem_toArray, List.getElem_cons_zero, List.getElem_cons_succ, Act.put, List.setIfInBounds_toArray, List.set_cons_zero, List.set_cons_succ]
              refine wpAnyH_take (i := 14) (v := ?_) rfl (by kernel_rfl) (by kernel_rfl) (by kernel_rfl) (fun _ _ _ h => h) (Or.inl ⟨by kernel_rfl, ?_⟩) (by assumption) ?_
              rotate_left
              · intro Wt hSt
                go_simp
                try with_reducible rfl
              try simp only [List.getElem_toArray, List.getElem_cons_zero, List.getElem_cons_succ, Act.put, List.setIfInBounds_toArray, List.set_cons_zero, List.set_cons_succ]
              refine wpAnyH_take (i := 15) (v := ?_) rfl (by kernel_rfl) (by kernel_rfl) (by kernel_rfl) (fun _ _ _ h => h) (Or.inl ⟨by kernel_rfl, ?_⟩) (by assumption) ?_
              rotate_left
              · intro Wt hSt
                go_simp
                try with_reducible rfl
              try simp only [List.getElem_toArray, List.getElem_cons_zero, List.getElem_cons_succ, Act.put, List.setIfInBounds_toArray, List.set_cons_zero, List.set_cons_succ]
              refine wpAnyH_one 2 _ rfl (by kernel_rfl) (by kernel_rfl) ?_
              intro K' hK
              go_simp
              refine ((unhide HAT) W).mono ?_; rintro e0 V ⟨rfl, rfl⟩
              dsimp only
              refine hK _ _ hSW ?_
              clear hK K'
              try simp only [List.getElem_toArray, List.getElem_cons_zero, List.getElem_cons_succ, Act.put, List.setIfInBounds_toArray, List.set_cons_zero, List.set_cons_succ]
              refine wpAnyH_take (i := 3) (v := ?_) rfl (by kernel_rfl) (by kernel_rfl) (by kernel_rfl) (fun _ _ _ h => h) (Or.inl ⟨by kernel_rfl, ?_⟩) (by assumption) ?_
              rotate_left
              · intro Wt hSt
                go_simp
                try with_reducible rfl
              try simp only [List.getElem_toArray, List.getElem_cons_zero, List.getElem_cons_succ, Act.put, List.setIfInBounds_toArray, List.set_cons_zero, List.set_cons_succ]
              refine wpAnyH_take (i := 4) (v := ?_) rfl (by kernel_rfl) (by kernel_rfl) (by kernel_rfl) (fun _ _ _ h => h) (Or.inl ⟨by kernel_rfl, ?_⟩) (by assumption) ?_
              rotate_left
              · intro Wt hSt
                go_simp
                try with_reducible rfl
              try simp only [List.getElem_toArray, List.getElem_cons_zero, List.getElem_cons_succ, Act.put, List.setIfInBounds_toArray, List.set_cons_zero, List.set_cons_succ]
              refine wpAnyH_take (i := 10) (v := ?_) rfl (by kernel_rfl) (by kernel_rfl) (by kernel_rfl) (fun _ _ _ h => h) (Or.inl ⟨by kernel_rfl, ?_⟩) (by assumption) ?_
              rotate_left
              · intro Wt hSt
                go_simp
                try with_reducible rfl
              try simp only [List.getElem_toArray, List.getElem_cons_zero, List.getElem_cons_succ, Act.put, List.setIfInBounds_toArray, List.set_cons_zero, List.set_cons_succ]
              refine wpAnyH_one 16 _ rfl (by kernel_rfl) (by kernel_rfl) ?_
              intro K' hK
              go_simp
              refine (rrol_one _ V).mono ?_; rintro e0 V2 ⟨rfl, hb2⟩
              have hS2 := hSW.keep hb2
              have hK2 := (unhide HKW).keep hb2
              dsimp only
              refine hK _ _ hS2 ?_
              clear hK K'
              try simp only [List.getElem_toArray, List.getElem_cons_zero, List.getElem_cons_succ, Act.put, List.setIfInBounds_toArray, List.set_cons_zero, List.set_cons_succ]
              refine wpAnyH_take (i := 17) (v := ?_) rfl (by kernel_rfl) (by kernel_rfl) (by kernel_rfl) (fun _ _ _ h => h) (Or.inl ⟨by kernel_rfl, ?_⟩) (by assumption) ?_
              rotate_left
              · intro Wt hSt
                go_simp
                try with_reducible rfl
              try simp only [List.getElem_toArray, List.getElem_cons_zero, List.getElem_cons_succ, Act.put, List.setIfInBounds_toArray, List.set_cons_zero, List.set_cons_succ]
              refine wpAnyH_take (i := 18) (v := ?_) rfl (by kernel_rfl) (by kernel_rfl) (by kernel_rfl) (fun _ _ _ h => h) (Or.inl ⟨by kernel_rfl, ?_⟩) (by assumption) ?_
              rotate_left
              · intro Wt hSt
                go_simp
                try with_reducible rfl
              try simp only [List.getElem_toArray, List.getElem_cons_zero, List.getElem_cons_succ, Act.put, List.setIfInBounds_toArray, List.set_cons_zero, List.set_cons_succ]
              refine wpAnyH_chainOf [] _ _ _ (by kernel_rfl) (by kernel_rfl) ?_
              refine wpChain_nil ?_
              obtain ⟨vv, hvv⟩ : ∃ z, z = vR f x y := ⟨_, rfl⟩
              have evv : bits .xor .u64 (bits .xor .u64 (f q) (cR f x4)) (rolR (cR f xn) 1) = vv := by rw [hvv, (unhide HY).2.2.1.eq_, (unhide HY).2.2.1.e4, (unhide HY).2.2.1.en]; rfl
              rw [evv]
              have HVV := hide hvv
              have HS2 := hide hS2; have HK2 := hide hK2
              have hcR := hS2.f_.r.cell (unhide HY).2.2.1.q1
              rw [(unhide HY).2.2.2.2] at hcR
              clear evv hvv hS2 hK2 hSW hfL hf4 hf1 hb2
              go_wp2_with fail
              refine ((unhide HATP) V2).mono ?_; rintro e0 V3 ⟨rfl, rfl⟩
              go_wp2_with fail
              refine ((unhide HAT) V3).mono ?_; rintro e0 V4 ⟨rfl, rfl⟩
              go_wp2_with fail
              refine (rrol_any vv (rtN q) (unhide HY).2.2.2.1 V4).mono ?_; rintro e0 V5 ⟨rfl, hb5⟩
              have HS5 := hide ((unhide HS2).keep hb5)
              have HK5 := hide ((unhide HK2).keep hb5)
              have hcB := (unhide HK5).cell (unhide HY).2.2.1.p1
              have hcBf := (unhide HK5).free pp
              clear hb5 hcR HS2 HK2
              go_wp2_with fail
              go_roundg g2
              case measure => omega
              case rel =>
                have h := unhide HY
                refine ⟨y + 1, rfl, by omega, ?_, (unhide HS5).grown (unhide HZ) (grown_one V5 _ _ _)⟩
                have hk := (unhide HK5).set h.2.2.1.p1 (rolR vv (rtN q))
                rw [show 5 * x + (y + 1) = 5 * x + y + 1 by omega, ← bR_step f x y h.2.1]
                rw [unhide HVV, h.2.2.1.ep, h.2.2.1.eq_] at hk
                rw [unhide HVV, h.2.2.1.ep, h.2.2.1.eq_]
                exact hk
            · have y1 : ¬ (y : Int) < 5 := by omega
              obtain rfl : y = 5 := by omega
              clear hyg hy
              go_wp2_with fail
              go_roundg g
              case measure => omega
              case rel => exact ⟨x + 1, rfl, by have := unhide HX; omega, by rw [show 5 * (x + 1) = 5 * x + 5 by omega]; exact unhide HK, unhide HRG⟩
        · have x1 : ¬ (x : Int) < 5 := by omega
          obtain rfl : x = 5 := by omega
          clear hxg hx
          go_upto_region 18 with fail
          have HRH := hide (RH.mk (unhide HRG).f_ (show BF N (bR f rtN 25) wr from unhide HK))
          obtain ⟨G, hG⟩ : ∃ G, G = bR f rtN 25 := ⟨_, rfl⟩
          have HGG := hide hG
          rw [← hG] at HRH
          clear HRG HK hG
          refine wp_region_lit ?_
          refine wpList_build0 rfl 48 rfl (kv .u64 25 fun _ => 0) (buildS _) ?_
          obtain ⟨cx, hcx⟩ : ∃ cs, cs = (kc .u64 25 fun _ => 0).toArray := ⟨_, rfl⟩
          rw [show kv .u64 25 (fun _ => 0) = .agg cx by rw [hcx]]
          have HCX := hide hcx
          clear hcx
          refine wpList_plain rfl fun Kt hKt => ?_
          go_simp
          refine hKt _ _ ?_
          clear hKt Kt
          generalize hX8 : wr.alloc _ = W8
          have hB8 : Below wr.heap.size wr W8 := hX8 ▸ (Below.refl _ _).alloc (Nat.le_refl _) _
          have HN8 := hide (newK wr W8 (k := .u64) (n := 25) (t := 48) (f := fun _ => 0) (by rw [← hX8]; rfl))
          have HRH8 := hide ((unhide HRH).keep hB8)
          obtain ⟨M, hM⟩ : ∃ M, M = wr.heap.size := ⟨_, rfl⟩
          have HM : Hid (w.heap.size + 4 ≤ N ∧ N < M) := ⟨unhide HZ, hM ▸ KAt.lt (unhide HRH).k⟩
          rw [← hM] at HN8 ⊢
          clear hX8 hB8 hM HRH
          refine wpList_kstore rfl 48 (.tmp 14) (.tmp 80) rfl M rfl .u64 25 (fun _ => 0) (show Value.agg cx = _ by rw [unhide HCX]) infoS _ _ (unhide HN8) ?_
          intro W9 HK9 HG9
          have HRH9 := hide ((unhide HRH8).grown (unhide HM).1 (unhide HM).2 (unhide HG9))
          clear HG9 HN8 HRH8
          try simp only [List.getElem_toArray, List.getElem_cons_zero, List.getElem_cons_succ, Act.put, List.setIfInBounds_toArray, List.set_cons_zero, List.set_cons_succ]
          go_wp2_with fail
          go_loopg [15] 5 (fun g y15 wx => ∃ x : Nat, y15 = .int .i64 (x : Int) ∧ x + g = 5 ∧ KAt .u64 25 wx M 48 (oR G (5 * x)) ∧ RH w f N G wx)
          case atStart => exact ⟨0, rfl, by omega, (unhide HK9).fn (fun j _ => rfl), unhide HRH9⟩
          case round =>
            clear HK9 HRH9
            obtain ⟨x, rfl, hxg, hk, hrh⟩ := hrel
            have HK := hide hk; have HRH := hide hrh
            clear hk hrh
            by_cases hx : x < 5
            · obtain ⟨g, rfl⟩ : ∃ g, gk = g + 1 := ⟨gk - 1, by omega⟩
              have x1 : (x : Int) < 5 := lt_int hx
              have x0 : (0 : Int) ≤ (x : Int) := Int.natCast_nonneg _
              have wx : IntKind.i64.wrap ((x : Int) + 1) = ((x + 1 : Nat) : Int) := (IntWalk.i64_in _ (by omega)).trans (by omega)
              have HX : Hid (x + (g + 1) = 5 ∧ x < 5) := ⟨hxg, hx⟩
              clear hxg hx
              go_wp2_with fail
              go_loopg [16] 5 (fun g' y16 wx => ∃ y : Nat, y16 = .int .i64 (y : Int) ∧ y + g' = 5 ∧ KAt .u64 25 wx M 48 (oR G (5 * x + y)) ∧ RH w f N G wx)
              case atStart => exact ⟨0, rfl, by omega, unhide HK, unhide HRH⟩
              case round =>
                clear HK HRH
                obtain ⟨y, rfl, hyg, hk, hrh⟩ := hrel
                have HK := hide hk; have HRH := hide hrh
                clear hk hrh
                by_cases hy : y < 5
                · obtain ⟨g2, rfl⟩ : ∃ g, gk = g + 1 := ⟨gk - 1, by omega⟩
                  clear wx
                  have y1 : (y : Int) < 5 := lt_int hy
                  have y0 : (0 : Int) ≤ (y : Int) := Int.natCast_nonneg _
                  have wy : IntKind.i64.wrap ((y : Int) + 1) = ((y + 1 : Nat) : Int) := (IntWalk.i64_in _ (by omega)).trans (by omega)
                  obtain ⟨q, p1, p2, a1, a2, nc⟩ := nc_mk x y (unhide HX).2 hy
                  have HY : Hid (y + (g2 + 1) = 5 ∧ y < 5 ∧ NC x y q p1 p2 a1 a2) := ⟨hyg, hy, nc⟩
                  have wa1 := nc.wa1
                  have wa2 := nc.wa2
                  have q2 : (q : Int) < 25 := lt_int nc.q1
                  have q0 : (0 : Int) ≤ (q : Int) := Int.natCast_nonneg _
                  have l1 : (p1 : Int) < 25 := lt_int nc.l1
                  have l10 : (0 : Int) ≤ (p1 : Int) := Int.natCast_nonneg _
                  have l2 : (p2 : Int) < 25 := lt_int nc.l2
                  have l20 : (0 : Int) ≤ (p2 : Int) := Int.natCast_nonneg _
                  have HAT : Hid (∀ V, Calls Tryd.prog 53 #[.int .i64 (x : Int), .int .i64 (y : Int)] V fun e w' => e = .returned (.int .i64 (q : Int)) ∧ w' = V) := fun V => by rw [nc.eq_]; exact rat_nat x y (unhide HX).2 hy V
                  have HAT1 : Hid (∀ V, Calls Tryd.prog 53 #[.int .i64 (a1 : Int), .int .i64 (y : Int)] V fun e w' => e = .returned (.int .i64 (p1 : Int)) ∧ w' = V) := fun V => by
                    have hz := nc.z1
                    have := rat_any (a1 : Int) (y : Int) ⟨by omega, by omega⟩ ⟨by omega, by omega⟩ V
                    rw [nc.e1] at this
                    exact this
                  have HAT2 : Hid (∀ V, Calls Tryd.prog 53 #[.int .i64 (a2 : Int), .int .i64 (y : Int)] V fun e w' => e = .returned (.int .i64 (p2 : Int)) ∧ w' = V) := fun V => by
                    have hz := nc.z2
                    have := rat_any (a2 : Int) (y : Int) ⟨by omega, by omega⟩ ⟨by omega, by omega⟩ V
                    rw [nc.e2] at this
                    exact this
                  clear hyg hy nc
                  go_wp2_with fail
                  obtain ⟨W, hW⟩ : ∃ W, W = wr.drewN 1 := ⟨_, rfl⟩
                  have HW : Hid (W = wr.drewN 1) := hW
                  have HKW := hide ((unhide HK).keep (below_named HW))
                  have HRHW := hide ((unhide HRH).keep (below_named HW))
                  have hSW : BF N G W := (unhide HRHW).k
                  have hf0 := fun V (hV : BF N G V) => KAt.cell hV (unhide HY).2.2.q1
                  have hf1 := fun V (hV : BF N G V) => KAt.cell hV (unhide HY).2.2.l1
                  have hf2 := fun V (hV : BF N G V) => KAt.cell hV (unhide HY).2.2.l2
                  have hcC := (unhide HKW).cell (unhide HY).2.2.q1
                  have hcF := (unhide HKW).free q
                  clear hW HK HRH
                  refine held (S := BF N G) W HW (by kernel_rfl) ?_
                  refine wpAnyH_take (i := 0) (v := ?_) rfl (by kernel_rfl) (by kernel_rfl) (by kernel_rfl) (fun _ _ _ h => h) (Or.inl ⟨by kernel_rfl, ?_⟩) (by assumption) ?_
                  rotate_left
                  · intro Wt hSt
                    go_simp
                    try with_reducible rfl
                  try simp only [List.getElem_toArray, List.getElem_cons_zero, List.getElem_cons_succ, Act.put, List.setIfInBounds_toArray, List.set_cons_zero, List.set_cons_succ]
                  refine wpAnyH_take (i := 1) (v := ?_) rfl (by kernel_rfl) (by kernel_rfl) (by kernel_rfl) (fun _ _ _ h => h) (Or.inl ⟨by kernel_rfl, ?_⟩) (by assumption) ?_
                  rotate_left
                  · intro Wt hSt
                    go_simp
                    try with_reducible rfl
                  try simp only [List.getElem_toArray, List.getElem_cons_zero, List.getElem_cons_succ, Act.put, List.setIfInBounds_toArray, List.set_cons_zero, List.set_cons_succ]
                  refine wpAnyH_take (i := 3) (v := ?_) rfl (by kernel_rfl) (by kernel_rfl) (by kernel_rfl) (fun _ _ _ h => h) (Or.inl ⟨by kernel_rfl, ?_⟩) (by assumption) ?_
                  rotate_left
                  · intro Wt hSt
                    go_simp
                    try with_reducible rfl
                  try simp only [List.getElem_toArray, List.getElem_cons_zero, List.getElem_cons_succ, Act.put, List.setIfInBounds_toArray, List.set_cons_zero, List.set_cons_succ]
                  refine wpAnyH_take (i := 4) (v := ?_) rfl (by kernel_rfl) (by kernel_rfl) (by kernel_rfl) (fun _ _ _ h => h) (Or.inl ⟨by kernel_rfl, ?_⟩) (by assumption) ?_
                  rotate_left
                  · intro Wt hSt
                    go_simp
                    try with_reducible rfl
                  try simp only [List.getElem_toArray, List.getElem_cons_zero, List.getElem_cons_succ, Act.put, List.setIfInBounds_toArray, List.set_cons_zero, List.set_cons_succ]
                  refine wpAnyH_take (i := 8) (v := ?_) rfl (by kernel_rfl) (by kernel_rfl) (by kernel_rfl) (fun _ _ _ h => h) (Or.inl ⟨by kernel_rfl, ?_⟩) (by assumption) ?_
                  rotate_left
                  · intro Wt hSt
                    go_simp
                    try with_reducible rfl
                  try simp only [List.getElem_toArray, List.getElem_cons_zero, List.getElem_cons_succ, Act.put, List.setIfInBounds_toArray, List.set_cons_zero, List.set_cons_succ]
                  refine wpAnyH_take (i := 9) (v := ?_) rfl (by kernel_rfl) (by kernel_rfl) (by kernel_rfl) (fun _ _ _ h => h) (Or.inl ⟨by kernel_rfl, ?_⟩) (by assumption) ?_
                  rotate_left
                  · intro Wt hSt
                    go_simp
                    try with_reducible rfl
                  try simp only [List.getElem_toArray, List.getElem_cons_zero, List.getElem_cons_succ, Act.put, List.setIfInBounds_toArray, List.set_cons_zero, List.set_cons_succ]
                  refine wpAnyH_take (i := 10) (v := ?_) rfl (by kernel_rfl) (by kernel_rfl) (by kernel_rfl) (fun _ _ _ h => h) (Or.inl ⟨by kernel_rfl, ?_⟩) (by assumption) ?_
                  rotate_left
                  · intro Wt hSt
                    go_simp
                    try with_reducible rfl
                  try simp only [List.getElem_toArray, List.getElem_cons_zero, List.getElem_cons_succ, Act.put, List.setIfInBounds_toArray, List.set_cons_zero, List.set_cons_succ]
                  refine wpAnyH_take (i := 15) (v := ?_) rfl (by kernel_rfl) (by kernel_rfl) (by kernel_rfl) (fun _ _ _ h => h) (Or.inl ⟨by kernel_rfl, ?_⟩) (by assumption) ?_
                  rotate_left
                  · intro Wt hSt
                    go_simp
                    try with_reducible rfl
                  try simp only [List.getElem_toArray, List.getElem_cons_zero, List.getElem_cons_succ, Act.put, List.setIfInBounds_toArray, List.set_cons_zero, List.set_cons_succ]
                  refine wpAnyH_take (i := 16) (v := ?_) rfl (by kernel_rfl) (by kernel_rfl) (by kernel_rfl) (fun _ _ _ h => h) (Or.inl ⟨by kernel_rfl, ?_⟩) (by assumption) ?_
                  rotate_left
                  · intro Wt hSt
                    go_simp
                    try with_reducible rfl
                  try simp only [List.getElem_toArray, List.getElem_cons_zero, List.getElem_cons_succ, Act.put, List.setIfInBounds_toArray, List.set_cons_zero, List.set_cons_succ]
                  refine wpAnyH_take (i := 17) (v := ?_) rfl (by kernel_rfl) (by kernel_rfl) (by kernel_rfl) (fun _ _ _ h => h) (Or.inl ⟨by kernel_rfl, ?_⟩) (by assumption) ?_
                  rotate_left
                  · intro Wt hSt
                    go_simp
                    try with_reducible rfl
                  try simp only [List.getElem_toArray, List.getElem_cons_zero, List.getElem_cons_succ, Act.put, List.setIfInBounds_toArray, List.set_cons_zero, List.set_cons_succ]
                  refine wpAnyH_one 2 _ rfl (by kernel_rfl) (by kernel_rfl) ?_
                  intro K' hK
                  go_simp
                  refine ((unhide HAT) W).mono ?_; rintro e0 V ⟨rfl, rfl⟩
                  dsimp only
                  refine hK _ _ hSW ?_
                  clear hK K'
                  try simp only [List.getElem_toArray, List.getElem_cons_zero, List.getElem_cons_succ, Act.put, List.setIfInBounds_toArray, List.set_cons_zero, List.set_cons_succ]
                  refine wpAnyH_one 5 _ rfl (by kernel_rfl) (by kernel_rfl) ?_
                  intro K' hK
                  go_simp
                  refine ((unhide HAT) V).mono ?_; rintro e0 V2 ⟨rfl, rfl⟩
                  dsimp only
                  refine hK _ _ hSW ?_
                  clear hK K'
                  try simp only [List.getElem_toArray, List.getElem_cons_zero, List.getElem_cons_succ, Act.put, List.setIfInBounds_toArray, List.set_cons_zero, List.set_cons_succ]
                  refine wpAnyH_take (i := 6) (v := ?_) rfl (by kernel_rfl) (by kernel_rfl) (by kernel_rfl) (fun _ _ _ h => h) (Or.inl ⟨by kernel_rfl, ?_⟩) (by assumption) ?_
                  rotate_left
                  · intro Wt hSt
                    go_simp
                    try with_reducible rfl
                  try simp only [List.getElem_toArray, List.getElem_cons_zero, List.getElem_cons_succ, Act.put, List.setIfInBounds_toArray, List.set_cons_zero, List.set_cons_succ]
                  refine wpAnyH_take (i := 7) (v := ?_) rfl (by kernel_rfl) (by kernel_rfl) (by kernel_rfl) (fun _ _ _ h => h) (Or.inl ⟨by kernel_rfl, ?_⟩) (by assumption) ?_
                  rotate_left
                  · intro Wt hSt
                    go_simp
                    try with_reducible rfl
                  try simp only [List.getElem_toArray, List.getElem_cons_zero, List.getElem_cons_succ, Act.put, List.setIfInBounds_toArray, List.set_cons_zero, List.set_cons_succ]
                  refine wpAnyH_one 11 _ rfl (by kernel_rfl) (by kernel_rfl) ?_
                  intro K' hK
                  go_simp
                  refine ((unhide HAT1) V2).mono ?_; rintro e0 V3 ⟨rfl, rfl⟩
                  dsimp only
                  refine hK _ _ hSW ?_
                  clear hK K'
                  try simp only [List.getElem_toArray, List.getElem_cons_zero, List.getElem_cons_succ, Act.put, List.setIfInBounds_toArray, List.set_cons_zero, List.set_cons_succ]
                  refine wpAnyH_take (i := 12) (v := ?_) rfl (by kernel_rfl) (by kernel_rfl) (by kernel_rfl) (fun _ _ _ h => h) (Or.inl ⟨by kernel_rfl, ?_⟩) (by assumption) ?_
                  rotate_left
                  · intro Wt hSt
                    go_simp
                    try with_reducible rfl
                  try simp only [List.getElem_toArray, List.getElem_cons_zero, List.getElem_cons_succ, Act.put, List.setIfInBounds_toArray, List.set_cons_zero, List.set_cons_succ]
                  refine wpAnyH_take (i := 13) (v := ?_) rfl (by kernel_rfl) (by kernel_rfl) (by kernel_rfl) (fun _ _ _ h => h) (Or.inl ⟨by kernel_rfl, ?_⟩) (by assumption) ?_
                  rotate_left
                  · intro Wt hSt
                    go_simp
                    try with_reducible rfl
                  try simp only [List.getElem_toArray, List.getElem_cons_zero, List.getElem_cons_succ, Act.put, List.setIfInBounds_toArray, List.set_cons_zero, List.set_cons_succ]
                  refine wpAnyH_take (i := 14) (v := ?_) rfl (by kernel_rfl) (by kernel_rfl) (by kernel_rfl) (fun _ _ _ h => h) (Or.inl ⟨by kernel_rfl, ?_⟩) (by assumption) ?_
                  rotate_left
                  · intro Wt hSt
                    go_simp
                    try with_reducible rfl
                  try simp only [List.getElem_toArray, List.getElem_cons_zero, List.getElem_cons_succ, Act.put, List.setIfInBounds_toArray, List.set_cons_zero, List.set_cons_succ]
                  refine wpAnyH_one 18 _ rfl (by kernel_rfl) (by kernel_rfl) ?_
                  intro K' hK
                  go_simp
                  refine ((unhide HAT2) V3).mono ?_; rintro e0 V4 ⟨rfl, rfl⟩
                  dsimp only
                  refine hK _ _ hSW ?_
                  clear hK K'
                  try simp only [List.getElem_toArray, List.getElem_cons_zero, List.getElem_cons_succ, Act.put, List.setIfInBounds_toArray, List.set_cons_zero, List.set_cons_succ]
                  refine wpAnyH_take (i := 19) (v := ?_) rfl (by kernel_rfl) (by kernel_rfl) (by kernel_rfl) (fun _ _ _ h => h) (Or.inl ⟨by kernel_rfl, ?_⟩) (by assumption) ?_
                  rotate_left
                  · intro Wt hSt
                    go_simp
                    try with_reducible rfl
                  try simp only [List.getElem_toArray, List.getElem_cons_zero, List.getElem_cons_succ, Act.put, List.setIfInBounds_toArray, List.set_cons_zero, List.set_cons_succ]
                  refine wpAnyH_take (i := 20) (v := ?_) rfl (by kernel_rfl) (by kernel_rfl) (by kernel_rfl) (fun _ _ _ h => h) (Or.inl ⟨by kernel_rfl, ?_⟩) (by assumption) ?_
                  rotate_left
                  · intro Wt hSt
                    go_simp
                    try with_reducible rfl
                  try simp only [List.getElem_toArray, List.getElem_cons_zero, List.getElem_cons_succ, Act.put, List.setIfInBounds_toArray, List.set_cons_zero, List.set_cons_succ]
                  refine wpAnyH_take (i := 21) (v := ?_) rfl (by kernel_rfl) (by kernel_rfl) (by kernel_rfl) (fun _ _ _ h => h) (Or.inl ⟨by kernel_rfl, ?_⟩) (by assumption) ?_
                  rotate_left
                  · intro Wt hSt
                    go_simp
                    try with_reducible rfl
                  try simp only [List.getElem_toArray, List.getElem_cons_zero, List.getElem_cons_succ, Act.put, List.setIfInBounds_toArray, List.set_cons_zero, List.set_cons_succ]
                  refine wpAnyH_take (i := 22) (v := ?_) rfl (by kernel_rfl) (by kernel_rfl) (by kernel_rfl) (fun _ _ _ h => h) (Or.inl ⟨by kernel_rfl, ?_⟩) (by assumption) ?_
                  rotate_left
                  · intro Wt hSt
                    go_simp
                    try with_reducible rfl
                  try simp only [List.getElem_toArray, List.getElem_cons_zero, List.getElem_cons_succ, Act.put, List.setIfInBounds_toArray, List.set_cons_zero, List.set_cons_succ]
                  refine wpAnyH_take (i := 23) (v := ?_) rfl (by kernel_rfl) (by kernel_rfl) (by kernel_rfl) (fun _ _ _ h => h) (Or.inl ⟨by kernel_rfl, ?_⟩) (by assumption) ?_
                  rotate_left
                  · intro Wt hSt
                    go_simp
                    try with_reducible rfl
                  try simp only [List.getElem_toArray, List.getElem_cons_zero, List.getElem_cons_succ, Act.put, List.setIfInBounds_toArray, List.set_cons_zero, List.set_cons_succ]
                  refine wpAnyH_chainOf [24] _ _ _ (by kernel_rfl) (by kernel_rfl) ?_
                  simp only [List.filterMap_cons, List.filterMap_nil, List.getElem?_toArray, List.getElem?_cons_zero, List.getElem?_cons_succ]
                  refine wpChain_step rfl fun K' hK => ?_
                  go_simp
                  obtain ⟨vv, hvv⟩ : ∃ z, z = X (G q) (An (X (G p1) 18446744073709551615) (G p2)) := ⟨_, rfl⟩
                  have HVV := hide hvv
                  have hs9 : BF N G (V4.setCell ⟨M, q, none⟩ (.int .u64 vv)) := KAt.grown hSW (grown_one V4 _ _ _) (by have := unhide HM; omega)
                  rw [hvv] at hs9
                  refine hK _ _ hs9 (wpChain_nil ?_)
                  clear hK K' hs9
                  go_wp2_with fail
                  go_roundg g2
                  case measure => omega
                  case rel =>
                    have h := unhide HY
                    have hk := (unhide HKW).set h.2.2.q1 (X (G q) (An (X (G p1) 18446744073709551615) (G p2)))
                    refine ⟨y + 1, rfl, by omega, ?_, (unhide HRHW).grown (unhide HM).1 (unhide HM).2 (grown_one V4 _ _ _)⟩
                    rw [show 5 * x + (y + 1) = 5 * x + y + 1 by omega, ← oR_step G x y h.2.1]
                    rw [h.2.2.en, h.2.2.em, h.2.2.eq_] at hk
                    rw [h.2.2.en, h.2.2.em, h.2.2.eq_]
                    exact hk
                · have y1 : ¬ (y : Int) < 5 := by omega
                  obtain rfl : y = 5 := by omega
                  clear hyg hy
                  go_wp2_with fail
                  go_roundg g
                  case measure => omega
                  case rel => exact ⟨x + 1, rfl, by have := unhide HX; omega, by rw [show 5 * (x + 1) = 5 * x + 5 by omega]; exact unhide HK, unhide HRH⟩
            · have x1 : ¬ (x : Int) < 5 := by omega
              obtain rfl : x = 5 := by omega
              clear hxg hx
              have HK2 : Hid (KAt .u64 25 wr M 48 (oR G 25)) := unhide HK
              have hc0 := (unhide HK2).cell (j := 0) (by decide)
              have hf0 := (unhide HK2).free 0
              clear HK
              go_upto_region 27 with fail
              have HK3 := hide ((unhide HK2).set (j := 0) (by decide) (X (oR G 25 0) kk))
              have HRH3 := hide ((unhide HRH).grown (unhide HM).1 (unhide HM).2 (grown_one wr M 0 (.int .u64 (X (oR G 25 0) kk))))
              have HE : Hid (upd (oR G 25) 0 (X (oR G 25 0) kk) = rndR f kk) := by rw [unhide HGG]; rfl
              rw [unhide HE] at HK3
              clear HE HGG hc0 hf0 HK2 HRH
              refine wp_region_lit ?_
              refine wpList_kload rfl 48 (.tmp 14) rfl M rfl _ Tryd.underlying48 rfl .u64 25 infoS _ _ (unhide HK3) ?_
              refine wpList_kstore rfl 48 (.tmp 6) (.tmp 118) rfl (w.heap.size + 2) rfl .u64 25 (rndR f kk) rfl infoS _ _ (unhide HRH3).g_.o ?_
              intro W10 HK10 HG10
              have HB10 := hide ((unhide HRH3).g_.b.grown (unhide HG10) (unhide HRH3).g_.b.size (fun i e => by injection e with e; omega))
              obtain ⟨ce, hce⟩ : ∃ cs, cs = (kc .u64 25 (rndR f kk)).toArray := ⟨_, rfl⟩
              rw [show kv .u64 25 (rndR f kk) = .agg ce by rw [hce]]
              have HCE := hide hce
              clear hce HG10 HK3 HRH3
              try simp only [List.getElem_toArray, List.getElem_cons_zero, List.getElem_cons_succ, Act.put, List.setIfInBounds_toArray, List.set_cons_zero, List.set_cons_succ]
              go_wp2_with fail
              try simp only [Exit.inBlock, Exit.then]
              exact kret rfl rfl (w.heap.size + 2) rfl .u64 25 _ _ (unhide HK10) _ Tryd.underlying48 rfl infoS ⟨rfl, unhide HB10⟩
end Go.Proofs.YtbclhieobhfdpaaDoor
