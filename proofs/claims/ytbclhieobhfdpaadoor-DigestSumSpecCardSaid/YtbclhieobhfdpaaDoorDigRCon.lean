/- Contracts over the digest's reference: constants. -/
import Derived.Test.YtbclhieobhfdpaaDoorDigRTurn
namespace Go.Proofs.YtbclhieobhfdpaaDoor
set_option linter.unusedSimpArgs false
set_option linter.unusedVariables false
open Go.RowKit

def nextS (s : Int) : Int := if 256 ≤ 2 * s then bits .xor .i64 (bits .xor .i64 (2 * s) 256) 113 else 2 * s
def sT : Nat → Int
  | 0 => 1
  | n + 1 => nextS (sT n)
theorem sT_lt : ∀ n, n < 169 → 0 ≤ sT n ∧ sT n < 256 := by decide +kernel
def cF (n : Nat) (j : Nat) : Int := if j < n then IntKind.u64.wrap (bits .and .i64 (sT j) 1) else 0
theorem cF_step (n j : Nat) : upd (cF n) n (IntKind.u64.wrap (bits .and .i64 (sT n) 1)) j = cF (n + 1) j := by
  unfold upd cF
  by_cases h : j = n
  · subst h; rw [if_pos rfl, if_pos (by omega)]
  · rw [if_neg h]
    by_cases hk : j < n
    · rw [if_pos hk, if_pos (by omega)]
    · rw [if_neg hk, if_neg (by omega)]
/-- a constant from the first j of its seven bits -/
def kB (i : Nat) : Nat → Int
  | 0 => 0
  | j + 1 => Or' (kB i j) (IntKind.u64.wrap (cF 168 (7 * i + j) * 2 ^ (2 ^ j - 1)))
def kF (i j : Nat) (q : Nat) : Int := if q < i then kB q 7 else if q = i then kB i j else 0
theorem kF_in (i j : Nat) : kF i j i = kB i j := by unfold kF; rw [if_neg (by omega), if_pos rfl]
theorem kF_step (i j q : Nat) : upd (kF i j) i (kB i (j + 1)) q = kF i (j + 1) q := by
  unfold upd kF
  by_cases h : q = i
  · subst h; rw [if_pos rfl, if_neg (by omega), if_pos rfl]
  · rw [if_neg h]
    by_cases hk : q < i
    · rw [if_pos hk, if_pos hk]
    · rw [if_neg hk, if_neg hk, if_neg h, if_neg h]
theorem kF_next (i q : Nat) : kF i 7 q = kF (i + 1) 0 q := by
  unfold kF
  by_cases hk : q < i
  · rw [if_pos hk, if_pos (by omega)]
  · rw [if_neg hk]
    by_cases h : q = i
    · subst h; rw [if_pos rfl, if_pos (by omega)]
    · rw [if_neg h, if_neg (by omega)]
      by_cases h2 : q = i + 1
      · subst h2; rw [if_pos rfl]; rfl
      · rw [if_neg h2]
theorem kF_const : ∀ q, q < 24 → kF 24 0 q = constT.getD q 0 := by decide +kernel
theorem infoC : (Tryd.prog.info? 76).map (·.size) = some 168 := by kernel_rfl
theorem builtC : Tryd.prog.built 76 [] = some (kc .u64 168 fun _ => 0).toArray := by kernel_rfl
theorem buildC (w : World) : (Instr.build 76 #[]).run Tryd.prog w = .ok (kv .u64 168 fun _ => 0) w := run_build w _ _ _ builtC
theorem infoK : (Tryd.prog.info? 51).map (·.size) = some 24 := by kernel_rfl
theorem builtK : Tryd.prog.built 51 [] = some (kc .u64 24 fun _ => 0).toArray := by kernel_rfl
theorem buildK (w : World) : (Instr.build 51 #[]).run Tryd.prog w = .ok (kv .u64 24 fun _ => 0) w := run_build w _ _ _ builtK

set_option maxRecDepth 100000 in
set_option maxHeartbeats 2000000 in
theorem rconst_any (w : World) :
    Calls Tryd.prog 29 #[] w fun x w' => x = .returned (kv .u64 24 (fun q => constT.getD q 0)) ∧ Below w.heap.size w w' := by
  go_enter Tryd.func29, Tryd.ntmps29
  go_upto_region 1 with fail
  generalize hX1 : w.alloc _ = W1
  have hB1 : Below w.heap.size w W1 := hX1 ▸ (Below.refl _ _).alloc (Nat.le_refl _) _
  have ho1 : KAt .u64 24 W1 w.heap.size 51 (fun _ => 0) := newK w W1 (by rw [← hX1]; rfl)
  have hz1 : W1.heap.size = w.heap.size + 1 := by rw [← hX1]; show (w.heap.push _).size = _; rw [Array.size_push]
  clear hX1
  refine wp_region_lit ?_
  refine wpList_build0 rfl 76 rfl (kv .u64 168 fun _ => 0) (buildC _) ?_
  obtain ⟨cz, hcz⟩ : ∃ cs, cs = (kc .u64 168 fun _ => 0).toArray := ⟨_, rfl⟩
  rw [show kv .u64 168 (fun _ => 0) = .agg cz by rw [hcz]]
  have HCZ := hide hcz
  clear hcz
  refine wpList_plain rfl fun Kt hKt => ?_
  go_simp
  refine hKt _ _ ?_
  clear hKt Kt
  generalize hX2 : W1.alloc _ = W2
  have hB2 : Below W1.heap.size W1 W2 := hX2 ▸ (Below.refl _ _).alloc (Nat.le_refl _) _
  have ho2 : KAt .u64 168 W2 W1.heap.size 76 (fun _ => 0) := newK W1 W2 (by rw [← hX2]; rfl)
  rw [hz1] at ho2
  have HB2 := hide (thenB hB1 hB2)
  have HO1 := hide (ho1.keep hB2)
  have HO2 := hide ho2
  clear hX2 hB1 hB2 ho1 ho2 hz1
  refine wpList_kstore rfl 76 (.tmp 1) (.tmp 7) rfl (w.heap.size + 1) rfl .u64 168 (fun _ => 0) (show Value.agg cz = _ by rw [unhide HCZ]) infoC _ _ (unhide HO2) ?_
  intro W3 HR3 HG3
  have HB3 := hide ((unhide HB2).grown (unhide HG3) (unhide HB2).size (fun i e => by injection e with e; omega))
  have HO3 := hide ((unhide HO1).grown (unhide HG3) (by omega))
  clear HG3 HO1 HO2 HB2
  try simp only [List.getElem_toArray, List.getElem_cons_zero, List.getElem_cons_succ, Act.put, List.setIfInBounds_toArray, List.set_cons_zero, List.set_cons_succ]
  go_wp2_with fail
  go_loopg [2, 3] 168 (fun g y2 y3 wx => ∃ n : Nat, y2 = .int .i64 (sT n) ∧ y3 = .int .i64 (n : Int) ∧ n + g = 168 ∧ KAt .u64 168 wx (w.heap.size + 1) 76 (cF n) ∧ KAt .u64 24 wx w.heap.size 51 (fun _ => 0) ∧ Below w.heap.size w wx)
  case atStart => exact ⟨0, rfl, rfl, by omega, unhide HR3, unhide HO3, unhide HB3⟩
  case round =>
    obtain ⟨n, rfl, rfl, hng, hr, ho, hb⟩ := hrel
    have HR := hide hr; have HO := hide ho; have HB := hide hb
    clear hr ho hb
    by_cases hn : n < 168
    · obtain ⟨g, rfl⟩ : ∃ g, gk = g + 1 := ⟨gk - 1, by omega⟩
      obtain ⟨hs0, hs1⟩ := sT_lt n (by omega)
      obtain ⟨s, hs⟩ : ∃ s, s = sT n := ⟨_, rfl⟩
      rw [← hs] at hs0 hs1 ⊢
      have i1 : (n : Int) < 168 := by omega
      have i0 : (0 : Int) ≤ (n : Int) := Int.natCast_nonneg _
      have w1 : IntKind.i64.wrap ((n : Int) + 1) = ((n + 1 : Nat) : Int) := (IntWalk.i64_in _ (by omega)).trans (by omega)
      have w2 : IntKind.i64.wrap (2 * s) = 2 * s := IntWalk.i64_in _ (by omega)
      have HT : Hid (n + (g + 1) = 168 ∧ s = sT n ∧ n < 168) := ⟨hng, hs, hn⟩
      have hcell := (unhide HR).cell hn
      have hfree := (unhide HR).free n
      clear hng hs hs0 hs1
      by_cases h256 : 256 ≤ 2 * s
      · have hnx : nextS s = bits .xor .i64 (bits .xor .i64 (2 * s) 256) 113 := if_pos h256
        have HNX := hide hnx
        clear hnx hn
        go_wp2_with fail
        go_roundg g
        case measure => omega
        case rel =>
          have h := unhide HT
          have e : sT (n + 1) = nextS s := by rw [h.2.1]; rfl
          refine ⟨n + 1, by rw [e, unhide HNX], rfl, by omega, ?_, (unhide HO).grown (grownSet (w := wr) ⟨rfl, rfl, rfl, Nat.le_refl _, fun _ _ _ => rfl⟩ _ _) (by omega), (unhide HB).grown (grownSet (w := wr) ⟨rfl, rfl, rfl, Nat.le_refl _, fun _ _ _ => rfl⟩ n _) (unhide HB).size (fun i e => by injection e with e; omega)⟩
          have hk := (unhide HR).set h.2.2 (IntKind.u64.wrap (bits .and .i64 s 1))
          refine hk.fn (fun j _ => ?_)
          rw [h.2.1]
          exact cF_step n j
      · have hnx : nextS s = 2 * s := if_neg h256
        have HNX := hide hnx
        clear hnx hn
        go_wp2_with fail
        go_roundg g
        case measure => omega
        case rel =>
          have h := unhide HT
          have e : sT (n + 1) = nextS s := by rw [h.2.1]; rfl
          refine ⟨n + 1, by rw [e, unhide HNX], rfl, by omega, ?_, (unhide HO).grown (grownSet (w := wr) ⟨rfl, rfl, rfl, Nat.le_refl _, fun _ _ _ => rfl⟩ _ _) (by omega), (unhide HB).grown (grownSet (w := wr) ⟨rfl, rfl, rfl, Nat.le_refl _, fun _ _ _ => rfl⟩ n _) (unhide HB).size (fun i e => by injection e with e; omega)⟩
          have hk := (unhide HR).set h.2.2 (IntKind.u64.wrap (bits .and .i64 s 1))
          refine hk.fn (fun j _ => ?_)
          rw [h.2.1]
          exact cF_step n j
    · have i1 : ¬ (n : Int) < 168 := by omega
      obtain rfl : n = 168 := by omega
      clear hng hn
      go_upto_region 10 with fail
      refine wp_region_lit ?_
      refine wpList_build0 rfl 51 rfl (kv .u64 24 fun _ => 0) (buildK _) ?_
      obtain ⟨cy, hcy⟩ : ∃ cs, cs = (kc .u64 24 fun _ => 0).toArray := ⟨_, rfl⟩
      rw [show kv .u64 24 (fun _ => 0) = .agg cy by rw [hcy]]
      have HCY := hide hcy
      clear hcy
      refine wpList_plain rfl fun Kt hKt => ?_
      go_simp
      refine hKt _ _ ?_
      clear hKt Kt
      generalize hX4 : wr.alloc _ = W4
      have hB4 : Below wr.heap.size wr W4 := hX4 ▸ (Below.refl _ _).alloc (Nat.le_refl _) _
      have HN4 := hide (newK wr W4 (k := .u64) (n := 24) (t := 51) (f := fun _ => 0) (by rw [← hX4]; rfl))
      have HR4 := hide ((unhide HR).keep hB4)
      have HO4 := hide ((unhide HO).keep hB4)
      have HB4 := hide (thenB (unhide HB) hB4)
      obtain ⟨N, hN⟩ : ∃ N, N = wr.heap.size := ⟨_, rfl⟩
      have HZ : Hid (w.heap.size + 1 < N) := hN ▸ (unhide HR).lt
      rw [← hN] at HN4 ⊢
      clear hX4 hB4 hN HR HO HB
      refine wpList_kstore rfl 51 (.tmp 4) (.tmp 24) rfl N rfl .u64 24 (fun _ => 0) (show Value.agg cy = _ by rw [unhide HCY]) infoK _ _ (unhide HN4) ?_
      intro W5 HK5 HG5
      have HR5 := hide ((unhide HR4).grown (unhide HG5) (by have := unhide HZ; omega))
      have HO5 := hide ((unhide HO4).grown (unhide HG5) (by have := unhide HZ; omega))
      have HB5 := hide ((unhide HB4).grown (unhide HG5) (unhide HB4).size (fun i e => by injection e with e; have := unhide HZ; omega))
      clear HG5 HR4 HO4 HB4 HN4
      try simp only [List.getElem_toArray, List.getElem_cons_zero, List.getElem_cons_succ, Act.put, List.setIfInBounds_toArray, List.set_cons_zero, List.set_cons_succ]
      go_wp2_with fail
      go_loopg [5] 24 (fun g y5 wx => ∃ i : Nat, y5 = .int .i64 (i : Int) ∧ i + g = 24 ∧ KAt .u64 24 wx N 51 (kF i 0) ∧ KAt .u64 168 wx (w.heap.size + 1) 76 (cF 168) ∧ KAt .u64 24 wx w.heap.size 51 (fun _ => 0) ∧ Below w.heap.size w wx)
      case atStart => exact ⟨0, rfl, by omega, (unhide HK5).fn (fun j _ => by unfold kF; rw [if_neg (by omega)]; split <;> rfl), unhide HR5, unhide HO5, unhide HB5⟩
      case round =>
        obtain ⟨i, rfl, hig, hk, hr, ho, hb⟩ := hrel
        have HK := hide hk; have HR := hide hr; have HO := hide ho; have HB := hide hb
        clear hk hr ho hb
        by_cases hi : i < 24
        · obtain ⟨g, rfl⟩ : ∃ g, gk = g + 1 := ⟨gk - 1, by omega⟩
          have i1 : (i : Int) < 24 := by omega
          have i0 : (0 : Int) ≤ (i : Int) := Int.natCast_nonneg _
          have wi : IntKind.i64.wrap ((i : Int) + 1) = ((i + 1 : Nat) : Int) := (IntWalk.i64_in _ (by omega)).trans (by omega)
          obtain ⟨s7, hs7⟩ : ∃ z, z = 7 * i := ⟨_, rfl⟩
          have w7 : IntKind.i64.wrap (7 * (i : Int)) = (s7 : Int) := (IntWalk.i64_in _ (by omega)).trans (by omega)
          have HI : Hid (i + (g + 1) = 24 ∧ i < 24 ∧ s7 = 7 * i) := ⟨hig, hi, hs7⟩
          clear hig hi hs7
          go_wp2_with fail
          go_loopg [6] 7 (fun g' y6 wx => ∃ j : Nat, y6 = .int .i64 (j : Int) ∧ j + g' = 7 ∧ KAt .u64 24 wx N 51 (kF i j) ∧ KAt .u64 168 wx (w.heap.size + 1) 76 (cF 168) ∧ KAt .u64 24 wx w.heap.size 51 (fun _ => 0) ∧ Below w.heap.size w wx)
          case atStart => exact ⟨0, rfl, by omega, unhide HK, unhide HR, unhide HO, unhide HB⟩
          case round =>
            clear HK HR HO HB
            obtain ⟨j, rfl, hjg, hk, hr, ho, hb⟩ := hrel
            have HK := hide hk; have HR := hide hr; have HO := hide ho; have HB := hide hb
            clear hk hr ho hb
            by_cases hj : j < 7
            · obtain ⟨g2, rfl⟩ : ∃ g, gk = g + 1 := ⟨gk - 1, by omega⟩
              obtain ⟨q, hq⟩ : ∃ q, q = 7 * i + j := ⟨_, rfl⟩
              obtain ⟨e, he⟩ : ∃ e, e = 2 ^ j := ⟨_, rfl⟩
              have he1 : 1 ≤ e ∧ e ≤ 64 := by rw [he]; exact ⟨Nat.pow_pos (by omega), Nat.pow_le_pow_right (n := 2) (by omega) (show j ≤ 6 by omega)⟩
              obtain ⟨d, hd⟩ : ∃ d, d = e - 1 := ⟨_, rfl⟩
              have j1 : (j : Int) < 7 := by omega
              have j0 : (0 : Int) ≤ (j : Int) := Int.natCast_nonneg _
              have wj : IntKind.i64.wrap ((j : Int) + 1) = ((j + 1 : Nat) : Int) := (IntWalk.i64_in _ (by omega)).trans (by omega)
              have wq : IntKind.i64.wrap ((s7 : Int) + (j : Int)) = (q : Int) := (IntWalk.i64_in _ (by have := unhide HI; omega)).trans (by have := unhide HI; omega)
              have q1 : q < 168 := by have := unhide HI; omega
              have q0 : (0 : Int) ≤ (q : Int) := Int.natCast_nonneg _
              have q2 : (q : Int) < 168 := by omega
              have hs1 := shift_shl .u64 .i64 1 (j : Int) j0 (by simp [IntKind.bits]; omega)
              have ej : ((j : Int)).toNat = j := Int.toNat_natCast j
              have we : IntKind.u64.wrap (2 ^ j) = (e : Int) := by rw [show ((2 : Int) ^ j) = (e : Int) by rw [he]; push_cast; rfl]; exact IntWalk.u64_in _ (by omega)
              have wd : IntKind.u64.wrap ((e : Int) - 1) = (d : Int) := (IntWalk.u64_in _ (by omega)).trans (by omega)
              have d0 : (0 : Int) ≤ (d : Int) := Int.natCast_nonneg _
              have hs2 := shift_shl .u64 .u64 (cF 168 q) (d : Int) d0 (by simp [IntKind.bits]; omega)
              have ed : ((d : Int)).toNat = d := Int.toNat_natCast d
              have HJ : Hid (j + (g2 + 1) = 7 ∧ j < 7 ∧ q = 7 * i + j ∧ e = 2 ^ j ∧ d = e - 1 ∧ q < 168) := ⟨hjg, hj, hq, he, hd, q1⟩
              have hcK := (unhide HK).cell (unhide HI).2.1
              rw [kF_in] at hcK
              have hcF := (unhide HK).free i
              have hcC := (unhide HR).cell q1
              clear hjg hj hq he hd he1 q1
              go_wp2_with fail
              obtain ⟨W, hW⟩ : ∃ W, W = wr.drewN 1 := ⟨_, rfl⟩
              have HW : Hid (W = wr.drewN 1) := hW
              have hbw := below_named HW
              have HKW := hide ((unhide HK).keep hbw)
              have HRW := hide ((unhide HR).keep hbw)
              have HOW := hide ((unhide HO).keep hbw)
              have HBW := hide (thenB (unhide HB) hbw)
              have hcK := (unhide HKW).cell (unhide HI).2.1
              rw [kF_in] at hcK
              have hcF := (unhide HKW).free i
              have hcC := (unhide HRW).cell (unhide HJ).2.2.2.2.2
              clear hW hbw HK HR HO HB
              refine still_drew 16 W HW (by kernel_rfl) (by kernel_rfl) ?_
              simp only [List.take_succ_cons, List.take_zero, List.drop_succ_cons, List.drop_zero]
              repeat still_step
              refine wpStill_nil ?_
              go_wp2_with fail
              go_roundg g2
              case measure => omega
              case rel =>
                have h := unhide HJ
                have hI := unhide HI
                have hz := unhide HZ
                have hk := (unhide HKW).set hI.2.1 (bits .or .u64 (kB i j) (IntKind.u64.wrap (cF 168 q * 2 ^ d)))
                refine ⟨j + 1, rfl, by omega, hk.fn (fun p _ => ?_), (unhide HRW).grown (grownSet (w := W) ⟨rfl, rfl, rfl, Nat.le_refl _, fun _ _ _ => rfl⟩ _ _) (by omega), (unhide HOW).grown (grownSet (w := W) ⟨rfl, rfl, rfl, Nat.le_refl _, fun _ _ _ => rfl⟩ _ _) (by omega), (unhide HBW).grown (grownSet (w := W) ⟨rfl, rfl, rfl, Nat.le_refl _, fun _ _ _ => rfl⟩ i _) (unhide HBW).size (fun q e => by injection e with e; omega)⟩
                rw [← kF_step i j p]
                rw [show kB i (j + 1) = bits .or .u64 (kB i j) (IntKind.u64.wrap (cF 168 q * 2 ^ d)) by rw [h.2.2.1, h.2.2.2.2.1, h.2.2.2.1]; rfl]
            · have j1 : ¬ (j : Int) < 7 := by omega
              obtain rfl : j = 7 := by omega
              clear hjg hj
              go_wp2_with fail
              go_roundg g
              case measure => omega
              case rel => exact ⟨i + 1, rfl, by have := unhide HI; omega, (unhide HK).fn (fun q _ => kF_next i q), unhide HR, unhide HO, unhide HB⟩
        · have i1 : ¬ (i : Int) < 24 := by omega
          obtain rfl : i = 24 := by omega
          clear hig hi
          go_upto_region 18 with fail
          refine wp_region_lit ?_
          refine wpList_kload rfl 51 (.tmp 4) rfl N rfl _ Tryd.underlying51 rfl .u64 24 infoK _ _ ((unhide HK).fn kF_const) ?_
          refine wpList_kstore rfl 51 (.tmp 0) (.tmp 49) rfl w.heap.size rfl .u64 24 (fun q => constT.getD q 0) rfl infoK _ _ (unhide HO) ?_
          intro W9 HR9 HG9
          obtain ⟨cr, hcr⟩ : ∃ cs, cs = (kc .u64 24 (fun q => constT.getD q 0)).toArray := ⟨_, rfl⟩
          rw [show kv .u64 24 (fun q => constT.getD q 0) = .agg cr by rw [hcr]]
          have HCR := hide hcr
          clear hcr
          try simp only [List.getElem_toArray, List.getElem_cons_zero, List.getElem_cons_succ, Act.put, List.setIfInBounds_toArray, List.set_cons_zero, List.set_cons_succ]
          go_wp2_with fail
          try simp only [Exit.inBlock, Exit.then]
          exact kret rfl rfl w.heap.size rfl .u64 24 _ _ (unhide HR9) _ Tryd.underlying51 rfl infoK ⟨rfl, (unhide HB).grown (unhide HG9) (unhide HB).size (fun i e => by injection e with e; omega)⟩
end Go.Proofs.YtbclhieobhfdpaaDoor
