/- A contract over the digest's program: mixColumns, for all lanes. -/
import Derived.Test.YtceppmajbkmbdaaDoorDigPure
import Derived.StillTailTactics
import Derived.Deep.DeepCutAuto
import Derived.Deep.RegionHeld3
namespace Go.Proofs.YtceppmajbkmbdaaDoor
set_option linter.unusedSimpArgs false
set_option linter.unusedVariables false
open Go.RowKit

/-- where the first step stands: columns' differences in a block of their own -/
def ColAt (w : World) (b : Nat) (t : TypeId) (f : Nat → Int) (rest : List Value) (D m : Nat) (wx : World) : Prop := SpAt wx b t (colsH f m) rest ∧ LnAt 5 wx D 121 (difF f) [] ∧ w.grownBy wx (some b)
theorem ColAt.start {w wr W : World} {b : Nat} {t : TypeId} {f : Nat → Int} {rest : List Value} (h : SpAt w b t f rest) (hb : Below w.heap.size w wr)
    (hW : W.heap = wr.heap.push (.cells #[.int .u64 (X (colF f 4) (rol (colF f 1) 1)), .int .u64 (X (colF f 0) (rol (colF f 2) 1)), .int .u64 (X (colF f 1) (rol (colF f 3) 1)), .int .u64 (X (colF f 2) (rol (colF f 4) 1)), .int .u64 (X (colF f 3) (rol (colF f 0) 1))] 121 (0, 0)))
    (h1 : W.os = wr.os) (h2 : W.tape = wr.tape) (h3 : W.output = wr.output) : ColAt w b t f rest wr.heap.size 0 W := by
  have hB := hb.trans ((pushed hW h1 h2 h3).mono hb.size)
  refine ⟨(h.keep hB).fn fun j _ => rfl, ?_, belowGrown b hB⟩
  show W.heap[wr.heap.size]? = _
  rw [hW, Array.getElem?_push_size]
  rfl
theorem ColAt.next {w wx W : World} {b : Nat} {t : TypeId} {f : Nat → Int} {rest : List Value} {D m : Nat} (h : ColAt w b t f rest D m wx) (hW : Hid (W = wx.drewN 1)) (hbD : b < D) (hm : m < 25) {q : Nat} (hq : q = m) {j : Nat} (hj : m % 5 = j) : ColAt w b t f rest D (m + 1) (W.setCell ⟨b, q, none⟩ (.int .u64 (X (f m) (difF f j)))) := by
  subst hj hq
  obtain ⟨hs, hd, hg⟩ := h
  exact ⟨((hs.keep (below_named hW)).set hm _).fn fun j _ => colsH_step f q j, (hd.keep (below_named hW)).other (p := ⟨b, q, none⟩) (by show D ≠ b; omega) _, grownSet (World.grownBy.trans hg (belowGrown b (below_named hW))) _ _⟩
theorem ColAt.now {w wx W : World} {b : Nat} {t : TypeId} {f : Nat → Int} {rest : List Value} {D m : Nat} (h : ColAt w b t f rest D m wx) (hW : Hid (W = wx.drewN 1)) (hm : m < 25) {q : Nat} (hq : q = m) {j : Nat} (hj : m % 5 = j) :
    W.cell? ⟨b, q, none⟩ = some (.int .u64 (f m)) ∧ W.cell? ⟨D, j, none⟩ = some (.int .u64 (difF f j)) ∧ W.frozen? ⟨b, q, none⟩ = false := by
  subst hj hq
  obtain ⟨hs, hd, hg⟩ := h
  have e : colsH f q q = f q := if_neg (by omega)
  exact ⟨e ▸ (hs.keep (below_named hW)).cell hm, (hd.keep (below_named hW)).cell (Nat.mod_lt _ (by omega)), (hs.keep (below_named hW)).free q⟩

set_option maxRecDepth 100000 in
set_option maxHeartbeats 4000000 in
theorem cols_any (w : World) (b : Nat) (t : TypeId) (f : Nat → Int) (rest : List Value) (h : SpAt w b t f rest) :
    Calls Tryd.prog 101 #[.pointer (some ⟨b, 0, none⟩)] w fun e w' => e = .returned (.tuple #[]) ∧ SpAt w' b t (colsF f 5) rest ∧ w.grownBy w' (some b) := by
  have HH := hide h
  clear h
  go_enter Tryd.func101, Tryd.ntmps101
  go_wp2_with fail
  go_loopg [6] 5 (fun g y wx => ∃ k : Nat, g + k = 5 ∧ y = .int .i64 ((k : Nat) : Int) ∧ LnAt 5 wx w.heap.size 121 (fun j => if j < k then colF f j else 0) [] ∧ Below w.heap.size w wx)
  case atStart =>
    refine ⟨0, rfl, rfl, ?_, (Below.refl _ _).alloc (Nat.le_refl _) _⟩
    show (w.heap.push _)[w.heap.size]? = _
    rw [Array.getElem?_push_size]
    rfl
  case round =>
    obtain ⟨k, hk, rfl, hS, hB⟩ := hrel
    have HS := hide hS
    have HB := hide hB
    have hSp := (unhide HH).keep hB
    have HSp := hide hSp
    cases gk with
    | zero =>
      have hk5 : k = 5 := by omega
      subst hk5
      have hS' := hS.fn (g := colF f) (fun j hj => if_pos hj)
      have HS' := hide hS'
      have c0 := hS'.cell (j := 0) (by omega); have c1 := hS'.cell (j := 1) (by omega); have c2 := hS'.cell (j := 2) (by omega); have c3 := hS'.cell (j := 3) (by omega); have c4 := hS'.cell (j := 4) (by omega)
      have hN := hS'.lt
      clear hS hB hSp hS' HS
      go_wp2_with fail
      have hbN : b < w.heap.size := (unhide HH).lt
      go_cut [4] (fun y wx => y = Value.pointer (some ⟨wr.heap.size, 0, none⟩) ∧ ColAt w b t f rest wr.heap.size 0 wx)
      case first =>
        go_region_held3 (fun W => W.cell? ⟨w.heap.size, 0, none⟩ = some (.int .u64 (colF f 0)) ∧ W.cell? ⟨w.heap.size, 1, none⟩ = some (.int .u64 (colF f 1)) ∧ W.cell? ⟨w.heap.size, 2, none⟩ = some (.int .u64 (colF f 2)) ∧ W.cell? ⟨w.heap.size, 3, none⟩ = some (.int .u64 (colF f 3)) ∧ W.cell? ⟨w.heap.size, 4, none⟩ = some (.int .u64 (colF f 4))) (go_keep) ((go_at_call 104; refine (rot_one _ _).mono ?_; rintro e w' ⟨rfl, rfl⟩))
        all_goals (go_wp2_with fail; go_meet; exact ⟨rfl, ColAt.start (unhide HH) (unhide HB) rfl rfl rfl rfl⟩)
      case rest =>
        obtain ⟨rfl, hC⟩ := hcut
        have HC := hide hC
        have hbD : b < wr.heap.size := Nat.lt_of_lt_of_le hbN (unhide HB).size
        generalize wr.heap.size = D at *
        clear hC c0 c1 c2 c3 c4 hN HS' HSp HB hbN
        go_wp2_with fail
        go_loopg [5] 5 (fun g y wx => ∃ k : Nat, g + k = 5 ∧ y = .int .i64 ((5 * k : Nat) : Int) ∧ ColAt w b t f rest D (5 * k) wx)
        case atStart => exact ⟨0, rfl, rfl, unhide HC⟩
        case round =>
          obtain ⟨k, hk, rfl, hS⟩ := hrel
          generalize hy : 5 * k = y
          have HY := hide hy
          rw [hy] at hS
          have HS0 := hide hS
          have hy0 : (0 : Int) ≤ (y : Int) := Int.natCast_nonneg _
          cases gk with
          | zero =>
            have hyl : ¬ (y : Int) < 25 := by omega
            have hk5 : y = 25 := by omega
            subst hk5
            clear hy hS
            go_wp2_with fail
            exact bodyPost_end (v := .tuple #[]) (by simp [results, Tryd.results101, go_sem]) rfl ⟨rfl, (unhide HS0).1, (unhide HS0).2.2⟩
          | succ g =>
            have hyl : (y : Int) ≤ 20 := by omega
            have hyt : (y : Int) < 25 := by omega
            have m0 : y % 5 = 0 := by omega
            obtain ⟨y1, hy1⟩ : ∃ m, m = y + 1 := ⟨_, rfl⟩
            obtain ⟨y2, hy2⟩ : ∃ m, m = y + 2 := ⟨_, rfl⟩
            obtain ⟨y3, hy3⟩ : ∃ m, m = y + 3 := ⟨_, rfl⟩
            obtain ⟨y4, hy4⟩ : ∃ m, m = y + 4 := ⟨_, rfl⟩
            have HK : Hid (y1 = y + 1 ∧ y2 = y + 2 ∧ y3 = y + 3 ∧ y4 = y + 4 ∧ y ≤ 20 ∧ y % 5 = 0) := ⟨hy1, hy2, hy3, hy4, by omega, m0⟩
            have w1 : IntKind.i64.wrap ((y : Int) + 1) = (y1 : Int) := (IntWalk.i64_in _ (by omega)).trans (by omega)
            have w2 : IntKind.i64.wrap ((y : Int) + 2) = (y2 : Int) := (IntWalk.i64_in _ (by omega)).trans (by omega)
            have w3 : IntKind.i64.wrap ((y : Int) + 3) = (y3 : Int) := (IntWalk.i64_in _ (by omega)).trans (by omega)
            have w4 : IntKind.i64.wrap ((y : Int) + 4) = (y4 : Int) := (IntWalk.i64_in _ (by omega)).trans (by omega)
            have b1 : (y1 : Int) < 25 := by omega
            have b2 : (y2 : Int) < 25 := by omega
            have b3 : (y3 : Int) < 25 := by omega
            have b4 : (y4 : Int) < 25 := by omega
            obtain ⟨f0, hf0⟩ : ∃ v, v = f y := ⟨_, rfl⟩
            clear hy hS hy1 hy2 hy3 hy4 m0
            go_wp2_with fail
            go_cut [] (fun wx => ColAt w b t f rest D (y + 1) wx)
            case first =>
              obtain ⟨W, hW⟩ : ∃ W, W = wr.drewN 1 := ⟨_, rfl⟩
              have HW : Hid (W = wr.drewN 1) := hW
              have hq : y = y + 0 ∧ y + 0 < 25 ∧ (y + 0) % 5 = 0 := by have := unhide HK; omega
              obtain ⟨c0, d0, q0⟩ := (unhide HS0).now HW hq.2.1 hq.1 hq.2.2
              have HQ := hide hq
              clear hW hq
              refine still_drew 10 W HW (by kernel_rfl) (by kernel_rfl) ?_
              simp only [List.take_succ_cons, List.take_zero, List.drop_succ_cons, List.drop_zero]
              repeat still_step
              refine wpStill_nil ?_
              go_wp2_with fail
              go_meet; exact (unhide HS0).next HW hbD (unhide HQ).2.1 (unhide HQ).1 (unhide HQ).2.2
            case rest =>
              have HS1 := hide hcut
              clear hcut
              go_wp2_with fail
              go_cut [] (fun wx => ColAt w b t f rest D (y + 2) wx)
              case first =>
                obtain ⟨W, hW⟩ : ∃ W, W = wc.drewN 1 := ⟨_, rfl⟩
                have HW : Hid (W = wc.drewN 1) := hW
                have hq : y1 = y + 1 ∧ y + 1 < 25 ∧ (y + 1) % 5 = 1 := by have := unhide HK; omega
                obtain ⟨c0, d0, q0⟩ := (unhide HS1).now HW hq.2.1 hq.1 hq.2.2
                have HQ := hide hq
                clear hW hq
                refine still_drew 11 W HW (by kernel_rfl) (by kernel_rfl) ?_
                simp only [List.take_succ_cons, List.take_zero, List.drop_succ_cons, List.drop_zero]
                repeat still_step
                refine wpStill_nil ?_
                go_wp2_with fail
                go_meet; exact (unhide HS1).next HW hbD (unhide HQ).2.1 (unhide HQ).1 (unhide HQ).2.2
              case rest =>
                have HS2 := hide hcut
                clear hcut
                go_wp2_with fail
                go_cut [] (fun wx => ColAt w b t f rest D (y + 3) wx)
                case first =>
                  obtain ⟨W, hW⟩ : ∃ W, W = wc.drewN 1 := ⟨_, rfl⟩
                  have HW : Hid (W = wc.drewN 1) := hW
                  have hq : y2 = y + 2 ∧ y + 2 < 25 ∧ (y + 2) % 5 = 2 := by have := unhide HK; omega
                  obtain ⟨c0, d0, q0⟩ := (unhide HS2).now HW hq.2.1 hq.1 hq.2.2
                  have HQ := hide hq
                  clear hW hq
                  refine still_drew 11 W HW (by kernel_rfl) (by kernel_rfl) ?_
                  simp only [List.take_succ_cons, List.take_zero, List.drop_succ_cons, List.drop_zero]
                  repeat still_step
                  refine wpStill_nil ?_
                  go_wp2_with fail
                  go_meet; exact (unhide HS2).next HW hbD (unhide HQ).2.1 (unhide HQ).1 (unhide HQ).2.2
                case rest =>
                  have HS3 := hide hcut
                  clear hcut
                  go_wp2_with fail
                  go_cut [] (fun wx => ColAt w b t f rest D (y + 4) wx)
                  case first =>
                    obtain ⟨W, hW⟩ : ∃ W, W = wc.drewN 1 := ⟨_, rfl⟩
                    have HW : Hid (W = wc.drewN 1) := hW
                    have hq : y3 = y + 3 ∧ y + 3 < 25 ∧ (y + 3) % 5 = 3 := by have := unhide HK; omega
                    obtain ⟨c0, d0, q0⟩ := (unhide HS3).now HW hq.2.1 hq.1 hq.2.2
                    have HQ := hide hq
                    clear hW hq
                    refine still_drew 11 W HW (by kernel_rfl) (by kernel_rfl) ?_
                    simp only [List.take_succ_cons, List.take_zero, List.drop_succ_cons, List.drop_zero]
                    repeat still_step
                    refine wpStill_nil ?_
                    go_wp2_with fail
                    go_meet; exact (unhide HS3).next HW hbD (unhide HQ).2.1 (unhide HQ).1 (unhide HQ).2.2
                  case rest =>
                    have HS4 := hide hcut
                    clear hcut
                    go_wp2_with fail
                    obtain ⟨W, hW⟩ : ∃ W, W = wc.drewN 1 := ⟨_, rfl⟩
                    have HW : Hid (W = wc.drewN 1) := hW
                    have hq : y4 = y + 4 ∧ y + 4 < 25 ∧ (y + 4) % 5 = 4 := by have := unhide HK; omega
                    obtain ⟨c0, d0, q0⟩ := (unhide HS4).now HW hq.2.1 hq.1 hq.2.2
                    have HQ := hide hq
                    clear hW hq
                    refine still_drew 11 W HW (by kernel_rfl) (by kernel_rfl) ?_
                    simp only [List.take_succ_cons, List.take_zero, List.drop_succ_cons, List.drop_zero]
                    repeat still_step
                    refine wpStill_nil ?_
                    go_wp2_with fail
                    go_roundg g
                    case measure => omega
                    case rel =>
                      have := (unhide HS4).next HW hbD (unhide HQ).2.1 (unhide HQ).1 (unhide HQ).2.2
                      exact ⟨k + 1, by omega, by have := unhide HY; congr 1; omega, (show 5 * (k + 1) = y + 4 + 1 by have := unhide HY; omega) ▸ this⟩
    | succ g =>
      have hyt : (k : Int) < 5 := by omega
      have hy0 : (0 : Int) ≤ (k : Int) := Int.natCast_nonneg _
      have hk4 : (k : Int) ≤ 4 := by omega
      have hk25 : (k : Int) < 25 := by omega
      obtain ⟨k5, hk5⟩ : ∃ m, m = k + 5 := ⟨_, rfl⟩
      obtain ⟨k10, hk10⟩ : ∃ m, m = k + 10 := ⟨_, rfl⟩
      obtain ⟨k15, hk15⟩ : ∃ m, m = k + 15 := ⟨_, rfl⟩
      obtain ⟨k20, hk20⟩ : ∃ m, m = k + 20 := ⟨_, rfl⟩
      have w5 : IntKind.i64.wrap ((k : Int) + 5) = (k5 : Int) := (IntWalk.i64_in _ (by omega)).trans (by omega)
      have w10 : IntKind.i64.wrap ((k : Int) + 10) = (k10 : Int) := (IntWalk.i64_in _ (by omega)).trans (by omega)
      have w15 : IntKind.i64.wrap ((k : Int) + 15) = (k15 : Int) := (IntWalk.i64_in _ (by omega)).trans (by omega)
      have w20 : IntKind.i64.wrap ((k : Int) + 20) = (k20 : Int) := (IntWalk.i64_in _ (by omega)).trans (by omega)
      have b5 : (k5 : Int) < 25 := by omega
      have b10 : (k10 : Int) < 25 := by omega
      have b15 : (k15 : Int) < 25 := by omega
      have b20 : (k20 : Int) < 25 := by omega
      have HK : Hid (k5 = k + 5 ∧ k10 = k + 10 ∧ k15 = k + 15 ∧ k20 = k + 20) := ⟨hk5, hk10, hk15, hk20⟩
      obtain ⟨W, hW⟩ : ∃ W, W = wr.drewN 1 := ⟨_, rfl⟩
      have HW : Hid (W = wr.drewN 1) := hW
      replace hSp := hSp.keep (below_named HW)
      replace hS := hS.keep (below_named HW)
      have c0 := hSp.cell (j := k) (by omega); have c1 := hSp.cell (j := k5) (by omega); have c2 := hSp.cell (j := k10) (by omega); have c3 := hSp.cell (j := k15) (by omega); have c4 := hSp.cell (j := k20) (by omega)
      have d0 := hS.cell (j := k) (by omega)
      have q0 := hS.free k
      clear hS hB hSp hW hk5 hk10 hk15 hk20
      go_wp2_with fail
      refine still_drew 35 W HW (by kernel_rfl) (by kernel_rfl) ?_
      simp only [List.take_succ_cons, List.take_zero, List.drop_succ_cons, List.drop_zero]
      repeat still_step
      refine wpStill_nil ?_
      go_wp2_with fail
      go_roundg g
      case measure => omega
      case rel =>
        obtain ⟨rfl, rfl, rfl, rfl⟩ := unhide HK
        refine ⟨k + 1, by omega, rfl, ?_, ?_⟩
        · refine (((unhide HS).keep (below_named HW)).set (by omega) _).fn fun j _ => ?_
          show (if j = k then _ else _) = _
          by_cases e : j = k
          · subst e; rw [if_pos rfl, if_pos (by omega)]; rfl
          · rw [if_neg e]
            by_cases e' : j < k
            · exact (if_pos e').trans (if_pos (by omega)).symm
            · exact (if_neg e').trans (if_neg (by omega)).symm
        · exact ((unhide HB).trans ((below_named HW).mono (unhide HB).size)).setCell (Nat.le_refl _) _
end Go.Proofs.YtceppmajbkmbdaaDoor
