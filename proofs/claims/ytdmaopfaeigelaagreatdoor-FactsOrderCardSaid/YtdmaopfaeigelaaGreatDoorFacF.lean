/- Contracts over the program of facts: rulings by their kinds. -/
import Derived.Test.YtdmaopfaeigelaaGreatDoorFacE
namespace Go.Proofs.YtdmaopfaeigelaaGreatDoor
set_option linter.unusedSimpArgs false
set_option linter.unusedVariables false
open Go.RowKit

def okInt (p q : Int) : Bool := inR p 0 1048576 && inR q 0 1048576 && decide (p ≤ q)
def rHold (k : Int) (r : Ru) : Bool := match k with
  | 1 => okGame r.g && (decide (r.club = r.g.h) || decide (r.club = r.g.a))
  | 2 => okGame r.g
  | 3 => okGame r.g && (inR r.hg 0 99 && inR r.ag 0 99)
  | 4 => inR r.club 0 191 && inR r.s 0 63 && inR r.c 0 15 && inR r.points 1 99
  | 5 => inR r.club 0 191 && okInt r.from_ r.to_
  | 6 => inR r.player 0 8191 && okInt r.from_ r.to_
  | 7 => inR r.club 0 191 && inR r.amount 1 1125899906842624
  | 8 => true
  | _ => false
def g0 : Gm := ⟨0, 0, 0, 0⟩
def rOwn (k : Int) (r : Ru) : Ru := match k with
  | 1 => ⟨0, 0, 0, r.g, r.club, 0, 0, 0, 0, 0, 0, 0, 0, 0⟩
  | 2 => ⟨0, 0, 0, r.g, 0, 0, 0, 0, 0, 0, 0, 0, 0, 0⟩
  | 3 => ⟨0, 0, 0, r.g, 0, 0, 0, 0, 0, 0, r.hg, r.ag, 0, 0⟩
  | 4 => ⟨0, 0, 0, g0, r.club, 0, r.s, r.c, r.points, 0, 0, 0, 0, 0⟩
  | 5 => ⟨0, 0, 0, g0, r.club, 0, 0, 0, 0, 0, 0, 0, r.from_, r.to_⟩
  | 6 => ⟨0, 0, 0, g0, 0, r.player, 0, 0, 0, 0, 0, 0, r.from_, r.to_⟩
  | 7 => ⟨0, 0, 0, g0, r.club, 0, 0, 0, 0, r.amount, 0, 0, 0, 0⟩
  | _ => ⟨0, 0, 0, g0, 0, 0, 0, 0, 0, 0, 0, 0, 0, 0⟩
set_option maxRecDepth 100000 in
set_option maxHeartbeats 1000000 in
theorem rh1_any (r : Ru) (w : World) : Calls Tryz.prog 225 #[.agg (rC r).toArray] w fun x w' => x = .returned (.bool (rHold 1 r)) ∧ Below w.heap.size w w' := by
  obtain ⟨cas, ins, kd, ⟨gs, gc, gh, ga⟩, cl, pl, se, co, po, am, hg, ag, fr, tt⟩ := r
  unfold rHold
  dsimp only
  show Calls Tryz.prog 225 #[.agg #[.int .i64 cas, .int .i64 ins, .int .i64 kd, .int .i64 gs, .int .i64 gc, .int .i64 gh, .int .i64 ga, .int .i64 cl, .int .i64 pl, .int .i64 se, .int .i64 co, .int .i64 po, .int .i64 am, .int .i64 hg, .int .i64 ag, .int .i64 fr, .int .i64 tt]] w _
  have HC0 := hide fun W => game_any ⟨gs, gc, gh, ga⟩ W
  obtain ⟨b0, hb0⟩ : ∃ b, b = (okGame ⟨gs, gc, gh, ga⟩) := ⟨_, rfl⟩
  rw [← hb0] at HC0 ⊢
  clear hb0
  go_enter Tryz.func225, Tryz.ntmps225
  go_upto_region 1 with fail
  generalize hX1 : w.alloc _ = W1
  have hB1 : Below w.heap.size w W1 := hX1 ▸ (Below.refl _ _).alloc (Nat.le_refl _) _
  have HV1 := hide (boxedV w W1 [.int .i64 cas, .int .i64 ins, .int .i64 kd, .int .i64 gs, .int .i64 gc, .int .i64 gh, .int .i64 ga, .int .i64 cl, .int .i64 pl, .int .i64 se, .int .i64 co, .int .i64 po, .int .i64 am, .int .i64 hg, .int .i64 ag, .int .i64 fr, .int .i64 tt] 35 (by rw [← hX1]; rfl))
  have HB1 := hide hB1
  clear hX1 hB1
  have hc0 : W1.cell? ⟨w.heap.size, 0, none⟩ = some (.int .i64 cas) := (unhide HV1).cell rfl
  have hc1 : W1.cell? ⟨w.heap.size, 1, none⟩ = some (.int .i64 ins) := (unhide HV1).cell rfl
  have hc2 : W1.cell? ⟨w.heap.size, 2, none⟩ = some (.int .i64 kd) := (unhide HV1).cell rfl
  have hc3 : W1.cell? ⟨w.heap.size, 3, none⟩ = some (.int .i64 gs) := (unhide HV1).cell rfl
  have hc4 : W1.cell? ⟨w.heap.size, 4, none⟩ = some (.int .i64 gc) := (unhide HV1).cell rfl
  have hc5 : W1.cell? ⟨w.heap.size, 5, none⟩ = some (.int .i64 gh) := (unhide HV1).cell rfl
  have hc6 : W1.cell? ⟨w.heap.size, 6, none⟩ = some (.int .i64 ga) := (unhide HV1).cell rfl
  have hc7 : W1.cell? ⟨w.heap.size, 7, none⟩ = some (.int .i64 cl) := (unhide HV1).cell rfl
  have hc8 : W1.cell? ⟨w.heap.size, 8, none⟩ = some (.int .i64 pl) := (unhide HV1).cell rfl
  have hc9 : W1.cell? ⟨w.heap.size, 9, none⟩ = some (.int .i64 se) := (unhide HV1).cell rfl
  have hc10 : W1.cell? ⟨w.heap.size, 10, none⟩ = some (.int .i64 co) := (unhide HV1).cell rfl
  have hc11 : W1.cell? ⟨w.heap.size, 11, none⟩ = some (.int .i64 po) := (unhide HV1).cell rfl
  have hc12 : W1.cell? ⟨w.heap.size, 12, none⟩ = some (.int .i64 am) := (unhide HV1).cell rfl
  have hc13 : W1.cell? ⟨w.heap.size, 13, none⟩ = some (.int .i64 hg) := (unhide HV1).cell rfl
  have hc14 : W1.cell? ⟨w.heap.size, 14, none⟩ = some (.int .i64 ag) := (unhide HV1).cell rfl
  have hc15 : W1.cell? ⟨w.heap.size, 15, none⟩ = some (.int .i64 fr) := (unhide HV1).cell rfl
  have hc16 : W1.cell? ⟨w.heap.size, 16, none⟩ = some (.int .i64 tt) := (unhide HV1).cell rfl
  go_wp2_with fail
  refine ((unhide HC0) W1).mono ?_; rintro x W2 ⟨rfl, hG⟩
  clear hc0 hc1 hc2 hc3 hc4 hc5 hc6 hc7 hc8 hc9 hc10 hc11 hc12 hc13 hc14 hc15 hc16
  have HV2 := hide ((unhide HV1).keep hG); have HB2 := hide (thenB (unhide HB1) hG); clear hG
  have hc0 : W2.cell? ⟨w.heap.size, 0, none⟩ = some (.int .i64 cas) := (unhide HV2).cell rfl
  have hc1 : W2.cell? ⟨w.heap.size, 1, none⟩ = some (.int .i64 ins) := (unhide HV2).cell rfl
  have hc2 : W2.cell? ⟨w.heap.size, 2, none⟩ = some (.int .i64 kd) := (unhide HV2).cell rfl
  have hc3 : W2.cell? ⟨w.heap.size, 3, none⟩ = some (.int .i64 gs) := (unhide HV2).cell rfl
  have hc4 : W2.cell? ⟨w.heap.size, 4, none⟩ = some (.int .i64 gc) := (unhide HV2).cell rfl
  have hc5 : W2.cell? ⟨w.heap.size, 5, none⟩ = some (.int .i64 gh) := (unhide HV2).cell rfl
  have hc6 : W2.cell? ⟨w.heap.size, 6, none⟩ = some (.int .i64 ga) := (unhide HV2).cell rfl
  have hc7 : W2.cell? ⟨w.heap.size, 7, none⟩ = some (.int .i64 cl) := (unhide HV2).cell rfl
  have hc8 : W2.cell? ⟨w.heap.size, 8, none⟩ = some (.int .i64 pl) := (unhide HV2).cell rfl
  have hc9 : W2.cell? ⟨w.heap.size, 9, none⟩ = some (.int .i64 se) := (unhide HV2).cell rfl
  have hc10 : W2.cell? ⟨w.heap.size, 10, none⟩ = some (.int .i64 co) := (unhide HV2).cell rfl
  have hc11 : W2.cell? ⟨w.heap.size, 11, none⟩ = some (.int .i64 po) := (unhide HV2).cell rfl
  have hc12 : W2.cell? ⟨w.heap.size, 12, none⟩ = some (.int .i64 am) := (unhide HV2).cell rfl
  have hc13 : W2.cell? ⟨w.heap.size, 13, none⟩ = some (.int .i64 hg) := (unhide HV2).cell rfl
  have hc14 : W2.cell? ⟨w.heap.size, 14, none⟩ = some (.int .i64 ag) := (unhide HV2).cell rfl
  have hc15 : W2.cell? ⟨w.heap.size, 15, none⟩ = some (.int .i64 fr) := (unhide HV2).cell rfl
  have hc16 : W2.cell? ⟨w.heap.size, 16, none⟩ = some (.int .i64 tt) := (unhide HV2).cell rfl
  cases b0
  case false =>
    go_wp2_with fail
    go_ret
    exact ⟨by simp, unhide HB2⟩
  by_cases h1 : cl = gh
  · have i1 : (cl == gh) = true := by simp [h1]
    have H := hide h1
    clear h1
    go_wp2_with fail
    go_ret
    exact ⟨by simp [unhide H], unhide HB2⟩
  · have i1 : (cl == gh) = false := by simp [h1]
    have H := hide h1
    clear h1
    go_wp2_with fail
    go_ret
    exact ⟨by simp [beq_dec, unhide H], unhide HB2⟩
set_option maxRecDepth 100000 in
set_option maxHeartbeats 1000000 in
theorem rh2_any (r : Ru) (w : World) : Calls Tryz.prog 227 #[.agg (rC r).toArray] w fun x w' => x = .returned (.bool (rHold 2 r)) ∧ Below w.heap.size w w' := by
  obtain ⟨cas, ins, kd, ⟨gs, gc, gh, ga⟩, cl, pl, se, co, po, am, hg, ag, fr, tt⟩ := r
  unfold rHold
  dsimp only
  show Calls Tryz.prog 227 #[.agg #[.int .i64 cas, .int .i64 ins, .int .i64 kd, .int .i64 gs, .int .i64 gc, .int .i64 gh, .int .i64 ga, .int .i64 cl, .int .i64 pl, .int .i64 se, .int .i64 co, .int .i64 po, .int .i64 am, .int .i64 hg, .int .i64 ag, .int .i64 fr, .int .i64 tt]] w _
  have HC0 := hide fun W => game_any ⟨gs, gc, gh, ga⟩ W
  obtain ⟨b0, hb0⟩ : ∃ b, b = (okGame ⟨gs, gc, gh, ga⟩) := ⟨_, rfl⟩
  rw [← hb0] at HC0 ⊢
  clear hb0
  go_enter Tryz.func227, Tryz.ntmps227
  go_upto_region 1 with fail
  generalize hX1 : w.alloc _ = W1
  have hB1 : Below w.heap.size w W1 := hX1 ▸ (Below.refl _ _).alloc (Nat.le_refl _) _
  have HV1 := hide (boxedV w W1 [.int .i64 cas, .int .i64 ins, .int .i64 kd, .int .i64 gs, .int .i64 gc, .int .i64 gh, .int .i64 ga, .int .i64 cl, .int .i64 pl, .int .i64 se, .int .i64 co, .int .i64 po, .int .i64 am, .int .i64 hg, .int .i64 ag, .int .i64 fr, .int .i64 tt] 35 (by rw [← hX1]; rfl))
  have HB1 := hide hB1
  clear hX1 hB1
  have hc0 : W1.cell? ⟨w.heap.size, 0, none⟩ = some (.int .i64 cas) := (unhide HV1).cell rfl
  have hc1 : W1.cell? ⟨w.heap.size, 1, none⟩ = some (.int .i64 ins) := (unhide HV1).cell rfl
  have hc2 : W1.cell? ⟨w.heap.size, 2, none⟩ = some (.int .i64 kd) := (unhide HV1).cell rfl
  have hc3 : W1.cell? ⟨w.heap.size, 3, none⟩ = some (.int .i64 gs) := (unhide HV1).cell rfl
  have hc4 : W1.cell? ⟨w.heap.size, 4, none⟩ = some (.int .i64 gc) := (unhide HV1).cell rfl
  have hc5 : W1.cell? ⟨w.heap.size, 5, none⟩ = some (.int .i64 gh) := (unhide HV1).cell rfl
  have hc6 : W1.cell? ⟨w.heap.size, 6, none⟩ = some (.int .i64 ga) := (unhide HV1).cell rfl
  have hc7 : W1.cell? ⟨w.heap.size, 7, none⟩ = some (.int .i64 cl) := (unhide HV1).cell rfl
  have hc8 : W1.cell? ⟨w.heap.size, 8, none⟩ = some (.int .i64 pl) := (unhide HV1).cell rfl
  have hc9 : W1.cell? ⟨w.heap.size, 9, none⟩ = some (.int .i64 se) := (unhide HV1).cell rfl
  have hc10 : W1.cell? ⟨w.heap.size, 10, none⟩ = some (.int .i64 co) := (unhide HV1).cell rfl
  have hc11 : W1.cell? ⟨w.heap.size, 11, none⟩ = some (.int .i64 po) := (unhide HV1).cell rfl
  have hc12 : W1.cell? ⟨w.heap.size, 12, none⟩ = some (.int .i64 am) := (unhide HV1).cell rfl
  have hc13 : W1.cell? ⟨w.heap.size, 13, none⟩ = some (.int .i64 hg) := (unhide HV1).cell rfl
  have hc14 : W1.cell? ⟨w.heap.size, 14, none⟩ = some (.int .i64 ag) := (unhide HV1).cell rfl
  have hc15 : W1.cell? ⟨w.heap.size, 15, none⟩ = some (.int .i64 fr) := (unhide HV1).cell rfl
  have hc16 : W1.cell? ⟨w.heap.size, 16, none⟩ = some (.int .i64 tt) := (unhide HV1).cell rfl
  go_wp2_with fail
  refine ((unhide HC0) W1).mono ?_; rintro x W2 ⟨rfl, hG⟩
  clear hc0 hc1 hc2 hc3 hc4 hc5 hc6 hc7 hc8 hc9 hc10 hc11 hc12 hc13 hc14 hc15 hc16
  have HV2 := hide ((unhide HV1).keep hG); have HB2 := hide (thenB (unhide HB1) hG); clear hG
  have hc0 : W2.cell? ⟨w.heap.size, 0, none⟩ = some (.int .i64 cas) := (unhide HV2).cell rfl
  have hc1 : W2.cell? ⟨w.heap.size, 1, none⟩ = some (.int .i64 ins) := (unhide HV2).cell rfl
  have hc2 : W2.cell? ⟨w.heap.size, 2, none⟩ = some (.int .i64 kd) := (unhide HV2).cell rfl
  have hc3 : W2.cell? ⟨w.heap.size, 3, none⟩ = some (.int .i64 gs) := (unhide HV2).cell rfl
  have hc4 : W2.cell? ⟨w.heap.size, 4, none⟩ = some (.int .i64 gc) := (unhide HV2).cell rfl
  have hc5 : W2.cell? ⟨w.heap.size, 5, none⟩ = some (.int .i64 gh) := (unhide HV2).cell rfl
  have hc6 : W2.cell? ⟨w.heap.size, 6, none⟩ = some (.int .i64 ga) := (unhide HV2).cell rfl
  have hc7 : W2.cell? ⟨w.heap.size, 7, none⟩ = some (.int .i64 cl) := (unhide HV2).cell rfl
  have hc8 : W2.cell? ⟨w.heap.size, 8, none⟩ = some (.int .i64 pl) := (unhide HV2).cell rfl
  have hc9 : W2.cell? ⟨w.heap.size, 9, none⟩ = some (.int .i64 se) := (unhide HV2).cell rfl
  have hc10 : W2.cell? ⟨w.heap.size, 10, none⟩ = some (.int .i64 co) := (unhide HV2).cell rfl
  have hc11 : W2.cell? ⟨w.heap.size, 11, none⟩ = some (.int .i64 po) := (unhide HV2).cell rfl
  have hc12 : W2.cell? ⟨w.heap.size, 12, none⟩ = some (.int .i64 am) := (unhide HV2).cell rfl
  have hc13 : W2.cell? ⟨w.heap.size, 13, none⟩ = some (.int .i64 hg) := (unhide HV2).cell rfl
  have hc14 : W2.cell? ⟨w.heap.size, 14, none⟩ = some (.int .i64 ag) := (unhide HV2).cell rfl
  have hc15 : W2.cell? ⟨w.heap.size, 15, none⟩ = some (.int .i64 fr) := (unhide HV2).cell rfl
  have hc16 : W2.cell? ⟨w.heap.size, 16, none⟩ = some (.int .i64 tt) := (unhide HV2).cell rfl
  go_wp2_with fail
  go_ret
  exact ⟨by simp, unhide HB2⟩
set_option maxRecDepth 100000 in
set_option maxHeartbeats 1000000 in
theorem rh3_any (r : Ru) (w : World) : Calls Tryz.prog 229 #[.agg (rC r).toArray] w fun x w' => x = .returned (.bool (rHold 3 r)) ∧ Below w.heap.size w w' := by
  obtain ⟨cas, ins, kd, ⟨gs, gc, gh, ga⟩, cl, pl, se, co, po, am, hg, ag, fr, tt⟩ := r
  unfold rHold
  dsimp only
  show Calls Tryz.prog 229 #[.agg #[.int .i64 cas, .int .i64 ins, .int .i64 kd, .int .i64 gs, .int .i64 gc, .int .i64 gh, .int .i64 ga, .int .i64 cl, .int .i64 pl, .int .i64 se, .int .i64 co, .int .i64 po, .int .i64 am, .int .i64 hg, .int .i64 ag, .int .i64 fr, .int .i64 tt]] w _
  have HC0 := hide fun W => game_any ⟨gs, gc, gh, ga⟩ W
  obtain ⟨b0, hb0⟩ : ∃ b, b = (okGame ⟨gs, gc, gh, ga⟩) := ⟨_, rfl⟩
  rw [← hb0] at HC0 ⊢
  clear hb0
  have HC1 := hide fun W => goals_any hg ag W
  obtain ⟨b1, hb1⟩ : ∃ b, b = (inR hg 0 99 && inR ag 0 99) := ⟨_, rfl⟩
  rw [← hb1] at HC1 ⊢
  clear hb1
  go_enter Tryz.func229, Tryz.ntmps229
  go_upto_region 1 with fail
  generalize hX1 : w.alloc _ = W1
  have hB1 : Below w.heap.size w W1 := hX1 ▸ (Below.refl _ _).alloc (Nat.le_refl _) _
  have HV1 := hide (boxedV w W1 [.int .i64 cas, .int .i64 ins, .int .i64 kd, .int .i64 gs, .int .i64 gc, .int .i64 gh, .int .i64 ga, .int .i64 cl, .int .i64 pl, .int .i64 se, .int .i64 co, .int .i64 po, .int .i64 am, .int .i64 hg, .int .i64 ag, .int .i64 fr, .int .i64 tt] 35 (by rw [← hX1]; rfl))
  have HB1 := hide hB1
  clear hX1 hB1
  have hc0 : W1.cell? ⟨w.heap.size, 0, none⟩ = some (.int .i64 cas) := (unhide HV1).cell rfl
  have hc1 : W1.cell? ⟨w.heap.size, 1, none⟩ = some (.int .i64 ins) := (unhide HV1).cell rfl
  have hc2 : W1.cell? ⟨w.heap.size, 2, none⟩ = some (.int .i64 kd) := (unhide HV1).cell rfl
  have hc3 : W1.cell? ⟨w.heap.size, 3, none⟩ = some (.int .i64 gs) := (unhide HV1).cell rfl
  have hc4 : W1.cell? ⟨w.heap.size, 4, none⟩ = some (.int .i64 gc) := (unhide HV1).cell rfl
  have hc5 : W1.cell? ⟨w.heap.size, 5, none⟩ = some (.int .i64 gh) := (unhide HV1).cell rfl
  have hc6 : W1.cell? ⟨w.heap.size, 6, none⟩ = some (.int .i64 ga) := (unhide HV1).cell rfl
  have hc7 : W1.cell? ⟨w.heap.size, 7, none⟩ = some (.int .i64 cl) := (unhide HV1).cell rfl
  have hc8 : W1.cell? ⟨w.heap.size, 8, none⟩ = some (.int .i64 pl) := (unhide HV1).cell rfl
  have hc9 : W1.cell? ⟨w.heap.size, 9, none⟩ = some (.int .i64 se) := (unhide HV1).cell rfl
  have hc10 : W1.cell? ⟨w.heap.size, 10, none⟩ = some (.int .i64 co) := (unhide HV1).cell rfl
  have hc11 : W1.cell? ⟨w.heap.size, 11, none⟩ = some (.int .i64 po) := (unhide HV1).cell rfl
  have hc12 : W1.cell? ⟨w.heap.size, 12, none⟩ = some (.int .i64 am) := (unhide HV1).cell rfl
  have hc13 : W1.cell? ⟨w.heap.size, 13, none⟩ = some (.int .i64 hg) := (unhide HV1).cell rfl
  have hc14 : W1.cell? ⟨w.heap.size, 14, none⟩ = some (.int .i64 ag) := (unhide HV1).cell rfl
  have hc15 : W1.cell? ⟨w.heap.size, 15, none⟩ = some (.int .i64 fr) := (unhide HV1).cell rfl
  have hc16 : W1.cell? ⟨w.heap.size, 16, none⟩ = some (.int .i64 tt) := (unhide HV1).cell rfl
  go_wp2_with fail
  refine ((unhide HC0) W1).mono ?_; rintro x W2 ⟨rfl, hG⟩
  clear hc0 hc1 hc2 hc3 hc4 hc5 hc6 hc7 hc8 hc9 hc10 hc11 hc12 hc13 hc14 hc15 hc16
  have HV2 := hide ((unhide HV1).keep hG); have HB2 := hide (thenB (unhide HB1) hG); clear hG
  have hc0 : W2.cell? ⟨w.heap.size, 0, none⟩ = some (.int .i64 cas) := (unhide HV2).cell rfl
  have hc1 : W2.cell? ⟨w.heap.size, 1, none⟩ = some (.int .i64 ins) := (unhide HV2).cell rfl
  have hc2 : W2.cell? ⟨w.heap.size, 2, none⟩ = some (.int .i64 kd) := (unhide HV2).cell rfl
  have hc3 : W2.cell? ⟨w.heap.size, 3, none⟩ = some (.int .i64 gs) := (unhide HV2).cell rfl
  have hc4 : W2.cell? ⟨w.heap.size, 4, none⟩ = some (.int .i64 gc) := (unhide HV2).cell rfl
  have hc5 : W2.cell? ⟨w.heap.size, 5, none⟩ = some (.int .i64 gh) := (unhide HV2).cell rfl
  have hc6 : W2.cell? ⟨w.heap.size, 6, none⟩ = some (.int .i64 ga) := (unhide HV2).cell rfl
  have hc7 : W2.cell? ⟨w.heap.size, 7, none⟩ = some (.int .i64 cl) := (unhide HV2).cell rfl
  have hc8 : W2.cell? ⟨w.heap.size, 8, none⟩ = some (.int .i64 pl) := (unhide HV2).cell rfl
  have hc9 : W2.cell? ⟨w.heap.size, 9, none⟩ = some (.int .i64 se) := (unhide HV2).cell rfl
  have hc10 : W2.cell? ⟨w.heap.size, 10, none⟩ = some (.int .i64 co) := (unhide HV2).cell rfl
  have hc11 : W2.cell? ⟨w.heap.size, 11, none⟩ = some (.int .i64 po) := (unhide HV2).cell rfl
  have hc12 : W2.cell? ⟨w.heap.size, 12, none⟩ = some (.int .i64 am) := (unhide HV2).cell rfl
  have hc13 : W2.cell? ⟨w.heap.size, 13, none⟩ = some (.int .i64 hg) := (unhide HV2).cell rfl
  have hc14 : W2.cell? ⟨w.heap.size, 14, none⟩ = some (.int .i64 ag) := (unhide HV2).cell rfl
  have hc15 : W2.cell? ⟨w.heap.size, 15, none⟩ = some (.int .i64 fr) := (unhide HV2).cell rfl
  have hc16 : W2.cell? ⟨w.heap.size, 16, none⟩ = some (.int .i64 tt) := (unhide HV2).cell rfl
  cases b0
  case false =>
    go_wp2_with fail
    go_ret
    exact ⟨by simp, unhide HB2⟩
  go_wp2_with fail
  refine ((unhide HC1) W2).mono ?_; rintro x W3 ⟨rfl, hG⟩
  clear hc0 hc1 hc2 hc3 hc4 hc5 hc6 hc7 hc8 hc9 hc10 hc11 hc12 hc13 hc14 hc15 hc16
  have HV3 := hide ((unhide HV2).keep hG); have HB3 := hide (thenB (unhide HB2) hG); clear hG
  have hc0 : W3.cell? ⟨w.heap.size, 0, none⟩ = some (.int .i64 cas) := (unhide HV3).cell rfl
  have hc1 : W3.cell? ⟨w.heap.size, 1, none⟩ = some (.int .i64 ins) := (unhide HV3).cell rfl
  have hc2 : W3.cell? ⟨w.heap.size, 2, none⟩ = some (.int .i64 kd) := (unhide HV3).cell rfl
  have hc3 : W3.cell? ⟨w.heap.size, 3, none⟩ = some (.int .i64 gs) := (unhide HV3).cell rfl
  have hc4 : W3.cell? ⟨w.heap.size, 4, none⟩ = some (.int .i64 gc) := (unhide HV3).cell rfl
  have hc5 : W3.cell? ⟨w.heap.size, 5, none⟩ = some (.int .i64 gh) := (unhide HV3).cell rfl
  have hc6 : W3.cell? ⟨w.heap.size, 6, none⟩ = some (.int .i64 ga) := (unhide HV3).cell rfl
  have hc7 : W3.cell? ⟨w.heap.size, 7, none⟩ = some (.int .i64 cl) := (unhide HV3).cell rfl
  have hc8 : W3.cell? ⟨w.heap.size, 8, none⟩ = some (.int .i64 pl) := (unhide HV3).cell rfl
  have hc9 : W3.cell? ⟨w.heap.size, 9, none⟩ = some (.int .i64 se) := (unhide HV3).cell rfl
  have hc10 : W3.cell? ⟨w.heap.size, 10, none⟩ = some (.int .i64 co) := (unhide HV3).cell rfl
  have hc11 : W3.cell? ⟨w.heap.size, 11, none⟩ = some (.int .i64 po) := (unhide HV3).cell rfl
  have hc12 : W3.cell? ⟨w.heap.size, 12, none⟩ = some (.int .i64 am) := (unhide HV3).cell rfl
  have hc13 : W3.cell? ⟨w.heap.size, 13, none⟩ = some (.int .i64 hg) := (unhide HV3).cell rfl
  have hc14 : W3.cell? ⟨w.heap.size, 14, none⟩ = some (.int .i64 ag) := (unhide HV3).cell rfl
  have hc15 : W3.cell? ⟨w.heap.size, 15, none⟩ = some (.int .i64 fr) := (unhide HV3).cell rfl
  have hc16 : W3.cell? ⟨w.heap.size, 16, none⟩ = some (.int .i64 tt) := (unhide HV3).cell rfl
  go_wp2_with fail
  go_ret
  exact ⟨by simp, unhide HB3⟩
set_option maxRecDepth 100000 in
set_option maxHeartbeats 1000000 in
theorem rh4_any (r : Ru) (w : World) : Calls Tryz.prog 231 #[.agg (rC r).toArray] w fun x w' => x = .returned (.bool (rHold 4 r)) ∧ Below w.heap.size w w' := by
  obtain ⟨cas, ins, kd, ⟨gs, gc, gh, ga⟩, cl, pl, se, co, po, am, hg, ag, fr, tt⟩ := r
  unfold rHold
  dsimp only
  show Calls Tryz.prog 231 #[.agg #[.int .i64 cas, .int .i64 ins, .int .i64 kd, .int .i64 gs, .int .i64 gc, .int .i64 gh, .int .i64 ga, .int .i64 cl, .int .i64 pl, .int .i64 se, .int .i64 co, .int .i64 po, .int .i64 am, .int .i64 hg, .int .i64 ag, .int .i64 fr, .int .i64 tt]] w _
  have HC0 := hide fun W => club_any cl W
  obtain ⟨b0, hb0⟩ : ∃ b, b = (inR cl 0 191) := ⟨_, rfl⟩
  rw [← hb0] at HC0 ⊢
  clear hb0
  have HC1 := hide fun W => season_any se W
  obtain ⟨b1, hb1⟩ : ∃ b, b = (inR se 0 63) := ⟨_, rfl⟩
  rw [← hb1] at HC1 ⊢
  clear hb1
  have HC2 := hide fun W => comp_any co W
  obtain ⟨b2, hb2⟩ : ∃ b, b = (inR co 0 15) := ⟨_, rfl⟩
  rw [← hb2] at HC2 ⊢
  clear hb2
  have HC3 := hide fun W => within_any po 1 99 W
  obtain ⟨b3, hb3⟩ : ∃ b, b = (inR po 1 99) := ⟨_, rfl⟩
  rw [← hb3] at HC3 ⊢
  clear hb3
  go_enter Tryz.func231, Tryz.ntmps231
  go_upto_region 1 with fail
  generalize hX1 : w.alloc _ = W1
  have hB1 : Below w.heap.size w W1 := hX1 ▸ (Below.refl _ _).alloc (Nat.le_refl _) _
  have HV1 := hide (boxedV w W1 [.int .i64 cas, .int .i64 ins, .int .i64 kd, .int .i64 gs, .int .i64 gc, .int .i64 gh, .int .i64 ga, .int .i64 cl, .int .i64 pl, .int .i64 se, .int .i64 co, .int .i64 po, .int .i64 am, .int .i64 hg, .int .i64 ag, .int .i64 fr, .int .i64 tt] 35 (by rw [← hX1]; rfl))
  have HB1 := hide hB1
  clear hX1 hB1
  have hc0 : W1.cell? ⟨w.heap.size, 0, none⟩ = some (.int .i64 cas) := (unhide HV1).cell rfl
  have hc1 : W1.cell? ⟨w.heap.size, 1, none⟩ = some (.int .i64 ins) := (unhide HV1).cell rfl
  have hc2 : W1.cell? ⟨w.heap.size, 2, none⟩ = some (.int .i64 kd) := (unhide HV1).cell rfl
  have hc3 : W1.cell? ⟨w.heap.size, 3, none⟩ = some (.int .i64 gs) := (unhide HV1).cell rfl
  have hc4 : W1.cell? ⟨w.heap.size, 4, none⟩ = some (.int .i64 gc) := (unhide HV1).cell rfl
  have hc5 : W1.cell? ⟨w.heap.size, 5, none⟩ = some (.int .i64 gh) := (unhide HV1).cell rfl
  have hc6 : W1.cell? ⟨w.heap.size, 6, none⟩ = some (.int .i64 ga) := (unhide HV1).cell rfl
  have hc7 : W1.cell? ⟨w.heap.size, 7, none⟩ = some (.int .i64 cl) := (unhide HV1).cell rfl
  have hc8 : W1.cell? ⟨w.heap.size, 8, none⟩ = some (.int .i64 pl) := (unhide HV1).cell rfl
  have hc9 : W1.cell? ⟨w.heap.size, 9, none⟩ = some (.int .i64 se) := (unhide HV1).cell rfl
  have hc10 : W1.cell? ⟨w.heap.size, 10, none⟩ = some (.int .i64 co) := (unhide HV1).cell rfl
  have hc11 : W1.cell? ⟨w.heap.size, 11, none⟩ = some (.int .i64 po) := (unhide HV1).cell rfl
  have hc12 : W1.cell? ⟨w.heap.size, 12, none⟩ = some (.int .i64 am) := (unhide HV1).cell rfl
  have hc13 : W1.cell? ⟨w.heap.size, 13, none⟩ = some (.int .i64 hg) := (unhide HV1).cell rfl
  have hc14 : W1.cell? ⟨w.heap.size, 14, none⟩ = some (.int .i64 ag) := (unhide HV1).cell rfl
  have hc15 : W1.cell? ⟨w.heap.size, 15, none⟩ = some (.int .i64 fr) := (unhide HV1).cell rfl
  have hc16 : W1.cell? ⟨w.heap.size, 16, none⟩ = some (.int .i64 tt) := (unhide HV1).cell rfl
  go_wp2_with fail
  refine ((unhide HC0) W1).mono ?_; rintro x W2 ⟨rfl, rfl⟩
  have HV2 := HV1; have HB2 := HB1; clear HV1 HB1
  cases b0
  case false =>
    go_wp2_with fail
    go_ret
    exact ⟨by simp, unhide HB2⟩
  go_wp2_with fail
  refine ((unhide HC1) W2).mono ?_; rintro x W3 ⟨rfl, rfl⟩
  have HV3 := HV2; have HB3 := HB2; clear HV2 HB2
  cases b1
  case false =>
    go_wp2_with fail
    go_ret
    exact ⟨by simp, unhide HB3⟩
  go_wp2_with fail
  refine ((unhide HC2) W3).mono ?_; rintro x W4 ⟨rfl, rfl⟩
  have HV4 := HV3; have HB4 := HB3; clear HV3 HB3
  cases b2
  case false =>
    go_wp2_with fail
    go_ret
    exact ⟨by simp, unhide HB4⟩
  go_wp2_with fail
  refine ((unhide HC3) W4).mono ?_; rintro x W5 ⟨rfl, rfl⟩
  have HV5 := HV4; have HB5 := HB4; clear HV4 HB4
  go_wp2_with fail
  go_ret
  exact ⟨by simp, unhide HB5⟩
set_option maxRecDepth 100000 in
set_option maxHeartbeats 1000000 in
theorem rh5_any (r : Ru) (w : World) : Calls Tryz.prog 233 #[.agg (rC r).toArray] w fun x w' => x = .returned (.bool (rHold 5 r)) ∧ Below w.heap.size w w' := by
  obtain ⟨cas, ins, kd, ⟨gs, gc, gh, ga⟩, cl, pl, se, co, po, am, hg, ag, fr, tt⟩ := r
  unfold rHold okInt
  dsimp only
  show Calls Tryz.prog 233 #[.agg #[.int .i64 cas, .int .i64 ins, .int .i64 kd, .int .i64 gs, .int .i64 gc, .int .i64 gh, .int .i64 ga, .int .i64 cl, .int .i64 pl, .int .i64 se, .int .i64 co, .int .i64 po, .int .i64 am, .int .i64 hg, .int .i64 ag, .int .i64 fr, .int .i64 tt]] w _
  have HC0 := hide fun W => club_any cl W
  obtain ⟨b0, hb0⟩ : ∃ b, b = (inR cl 0 191) := ⟨_, rfl⟩
  rw [← hb0] at HC0 ⊢
  clear hb0
  have HC1 := hide fun W => interval_any fr tt W
  obtain ⟨b1, hb1⟩ : ∃ b, b = (inR fr 0 1048576 && inR tt 0 1048576 && decide (fr ≤ tt)) := ⟨_, rfl⟩
  rw [← hb1] at HC1 ⊢
  clear hb1
  go_enter Tryz.func233, Tryz.ntmps233
  go_upto_region 1 with fail
  generalize hX1 : w.alloc _ = W1
  have hB1 : Below w.heap.size w W1 := hX1 ▸ (Below.refl _ _).alloc (Nat.le_refl _) _
  have HV1 := hide (boxedV w W1 [.int .i64 cas, .int .i64 ins, .int .i64 kd, .int .i64 gs, .int .i64 gc, .int .i64 gh, .int .i64 ga, .int .i64 cl, .int .i64 pl, .int .i64 se, .int .i64 co, .int .i64 po, .int .i64 am, .int .i64 hg, .int .i64 ag, .int .i64 fr, .int .i64 tt] 35 (by rw [← hX1]; rfl))
  have HB1 := hide hB1
  clear hX1 hB1
  have hc0 : W1.cell? ⟨w.heap.size, 0, none⟩ = some (.int .i64 cas) := (unhide HV1).cell rfl
  have hc1 : W1.cell? ⟨w.heap.size, 1, none⟩ = some (.int .i64 ins) := (unhide HV1).cell rfl
  have hc2 : W1.cell? ⟨w.heap.size, 2, none⟩ = some (.int .i64 kd) := (unhide HV1).cell rfl
  have hc3 : W1.cell? ⟨w.heap.size, 3, none⟩ = some (.int .i64 gs) := (unhide HV1).cell rfl
  have hc4 : W1.cell? ⟨w.heap.size, 4, none⟩ = some (.int .i64 gc) := (unhide HV1).cell rfl
  have hc5 : W1.cell? ⟨w.heap.size, 5, none⟩ = some (.int .i64 gh) := (unhide HV1).cell rfl
  have hc6 : W1.cell? ⟨w.heap.size, 6, none⟩ = some (.int .i64 ga) := (unhide HV1).cell rfl
  have hc7 : W1.cell? ⟨w.heap.size, 7, none⟩ = some (.int .i64 cl) := (unhide HV1).cell rfl
  have hc8 : W1.cell? ⟨w.heap.size, 8, none⟩ = some (.int .i64 pl) := (unhide HV1).cell rfl
  have hc9 : W1.cell? ⟨w.heap.size, 9, none⟩ = some (.int .i64 se) := (unhide HV1).cell rfl
  have hc10 : W1.cell? ⟨w.heap.size, 10, none⟩ = some (.int .i64 co) := (unhide HV1).cell rfl
  have hc11 : W1.cell? ⟨w.heap.size, 11, none⟩ = some (.int .i64 po) := (unhide HV1).cell rfl
  have hc12 : W1.cell? ⟨w.heap.size, 12, none⟩ = some (.int .i64 am) := (unhide HV1).cell rfl
  have hc13 : W1.cell? ⟨w.heap.size, 13, none⟩ = some (.int .i64 hg) := (unhide HV1).cell rfl
  have hc14 : W1.cell? ⟨w.heap.size, 14, none⟩ = some (.int .i64 ag) := (unhide HV1).cell rfl
  have hc15 : W1.cell? ⟨w.heap.size, 15, none⟩ = some (.int .i64 fr) := (unhide HV1).cell rfl
  have hc16 : W1.cell? ⟨w.heap.size, 16, none⟩ = some (.int .i64 tt) := (unhide HV1).cell rfl
  go_wp2_with fail
  refine ((unhide HC0) W1).mono ?_; rintro x W2 ⟨rfl, rfl⟩
  have HV2 := HV1; have HB2 := HB1; clear HV1 HB1
  cases b0
  case false =>
    go_wp2_with fail
    go_ret
    exact ⟨by simp, unhide HB2⟩
  go_wp2_with fail
  refine ((unhide HC1) W2).mono ?_; rintro x W3 ⟨rfl, hG⟩
  clear hc0 hc1 hc2 hc3 hc4 hc5 hc6 hc7 hc8 hc9 hc10 hc11 hc12 hc13 hc14 hc15 hc16
  have HV3 := hide ((unhide HV2).keep hG); have HB3 := hide (thenB (unhide HB2) hG); clear hG
  have hc0 : W3.cell? ⟨w.heap.size, 0, none⟩ = some (.int .i64 cas) := (unhide HV3).cell rfl
  have hc1 : W3.cell? ⟨w.heap.size, 1, none⟩ = some (.int .i64 ins) := (unhide HV3).cell rfl
  have hc2 : W3.cell? ⟨w.heap.size, 2, none⟩ = some (.int .i64 kd) := (unhide HV3).cell rfl
  have hc3 : W3.cell? ⟨w.heap.size, 3, none⟩ = some (.int .i64 gs) := (unhide HV3).cell rfl
  have hc4 : W3.cell? ⟨w.heap.size, 4, none⟩ = some (.int .i64 gc) := (unhide HV3).cell rfl
  have hc5 : W3.cell? ⟨w.heap.size, 5, none⟩ = some (.int .i64 gh) := (unhide HV3).cell rfl
  have hc6 : W3.cell? ⟨w.heap.size, 6, none⟩ = some (.int .i64 ga) := (unhide HV3).cell rfl
  have hc7 : W3.cell? ⟨w.heap.size, 7, none⟩ = some (.int .i64 cl) := (unhide HV3).cell rfl
  have hc8 : W3.cell? ⟨w.heap.size, 8, none⟩ = some (.int .i64 pl) := (unhide HV3).cell rfl
  have hc9 : W3.cell? ⟨w.heap.size, 9, none⟩ = some (.int .i64 se) := (unhide HV3).cell rfl
  have hc10 : W3.cell? ⟨w.heap.size, 10, none⟩ = some (.int .i64 co) := (unhide HV3).cell rfl
  have hc11 : W3.cell? ⟨w.heap.size, 11, none⟩ = some (.int .i64 po) := (unhide HV3).cell rfl
  have hc12 : W3.cell? ⟨w.heap.size, 12, none⟩ = some (.int .i64 am) := (unhide HV3).cell rfl
  have hc13 : W3.cell? ⟨w.heap.size, 13, none⟩ = some (.int .i64 hg) := (unhide HV3).cell rfl
  have hc14 : W3.cell? ⟨w.heap.size, 14, none⟩ = some (.int .i64 ag) := (unhide HV3).cell rfl
  have hc15 : W3.cell? ⟨w.heap.size, 15, none⟩ = some (.int .i64 fr) := (unhide HV3).cell rfl
  have hc16 : W3.cell? ⟨w.heap.size, 16, none⟩ = some (.int .i64 tt) := (unhide HV3).cell rfl
  go_wp2_with fail
  go_ret
  exact ⟨by simp, unhide HB3⟩
set_option maxRecDepth 100000 in
set_option maxHeartbeats 1000000 in
theorem rh6_any (r : Ru) (w : World) : Calls Tryz.prog 236 #[.agg (rC r).toArray] w fun x w' => x = .returned (.bool (rHold 6 r)) ∧ Below w.heap.size w w' := by
  obtain ⟨cas, ins, kd, ⟨gs, gc, gh, ga⟩, cl, pl, se, co, po, am, hg, ag, fr, tt⟩ := r
  unfold rHold okInt
  dsimp only
  show Calls Tryz.prog 236 #[.agg #[.int .i64 cas, .int .i64 ins, .int .i64 kd, .int .i64 gs, .int .i64 gc, .int .i64 gh, .int .i64 ga, .int .i64 cl, .int .i64 pl, .int .i64 se, .int .i64 co, .int .i64 po, .int .i64 am, .int .i64 hg, .int .i64 ag, .int .i64 fr, .int .i64 tt]] w _
  have HC0 := hide fun W => player_any pl W
  obtain ⟨b0, hb0⟩ : ∃ b, b = (inR pl 0 8191) := ⟨_, rfl⟩
  rw [← hb0] at HC0 ⊢
  clear hb0
  have HC1 := hide fun W => interval_any fr tt W
  obtain ⟨b1, hb1⟩ : ∃ b, b = (inR fr 0 1048576 && inR tt 0 1048576 && decide (fr ≤ tt)) := ⟨_, rfl⟩
  rw [← hb1] at HC1 ⊢
  clear hb1
  go_enter Tryz.func236, Tryz.ntmps236
  go_upto_region 1 with fail
  generalize hX1 : w.alloc _ = W1
  have hB1 : Below w.heap.size w W1 := hX1 ▸ (Below.refl _ _).alloc (Nat.le_refl _) _
  have HV1 := hide (boxedV w W1 [.int .i64 cas, .int .i64 ins, .int .i64 kd, .int .i64 gs, .int .i64 gc, .int .i64 gh, .int .i64 ga, .int .i64 cl, .int .i64 pl, .int .i64 se, .int .i64 co, .int .i64 po, .int .i64 am, .int .i64 hg, .int .i64 ag, .int .i64 fr, .int .i64 tt] 35 (by rw [← hX1]; rfl))
  have HB1 := hide hB1
  clear hX1 hB1
  have hc0 : W1.cell? ⟨w.heap.size, 0, none⟩ = some (.int .i64 cas) := (unhide HV1).cell rfl
  have hc1 : W1.cell? ⟨w.heap.size, 1, none⟩ = some (.int .i64 ins) := (unhide HV1).cell rfl
  have hc2 : W1.cell? ⟨w.heap.size, 2, none⟩ = some (.int .i64 kd) := (unhide HV1).cell rfl
  have hc3 : W1.cell? ⟨w.heap.size, 3, none⟩ = some (.int .i64 gs) := (unhide HV1).cell rfl
  have hc4 : W1.cell? ⟨w.heap.size, 4, none⟩ = some (.int .i64 gc) := (unhide HV1).cell rfl
  have hc5 : W1.cell? ⟨w.heap.size, 5, none⟩ = some (.int .i64 gh) := (unhide HV1).cell rfl
  have hc6 : W1.cell? ⟨w.heap.size, 6, none⟩ = some (.int .i64 ga) := (unhide HV1).cell rfl
  have hc7 : W1.cell? ⟨w.heap.size, 7, none⟩ = some (.int .i64 cl) := (unhide HV1).cell rfl
  have hc8 : W1.cell? ⟨w.heap.size, 8, none⟩ = some (.int .i64 pl) := (unhide HV1).cell rfl
  have hc9 : W1.cell? ⟨w.heap.size, 9, none⟩ = some (.int .i64 se) := (unhide HV1).cell rfl
  have hc10 : W1.cell? ⟨w.heap.size, 10, none⟩ = some (.int .i64 co) := (unhide HV1).cell rfl
  have hc11 : W1.cell? ⟨w.heap.size, 11, none⟩ = some (.int .i64 po) := (unhide HV1).cell rfl
  have hc12 : W1.cell? ⟨w.heap.size, 12, none⟩ = some (.int .i64 am) := (unhide HV1).cell rfl
  have hc13 : W1.cell? ⟨w.heap.size, 13, none⟩ = some (.int .i64 hg) := (unhide HV1).cell rfl
  have hc14 : W1.cell? ⟨w.heap.size, 14, none⟩ = some (.int .i64 ag) := (unhide HV1).cell rfl
  have hc15 : W1.cell? ⟨w.heap.size, 15, none⟩ = some (.int .i64 fr) := (unhide HV1).cell rfl
  have hc16 : W1.cell? ⟨w.heap.size, 16, none⟩ = some (.int .i64 tt) := (unhide HV1).cell rfl
  go_wp2_with fail
  refine ((unhide HC0) W1).mono ?_; rintro x W2 ⟨rfl, rfl⟩
  have HV2 := HV1; have HB2 := HB1; clear HV1 HB1
  cases b0
  case false =>
    go_wp2_with fail
    go_ret
    exact ⟨by simp, unhide HB2⟩
  go_wp2_with fail
  refine ((unhide HC1) W2).mono ?_; rintro x W3 ⟨rfl, hG⟩
  clear hc0 hc1 hc2 hc3 hc4 hc5 hc6 hc7 hc8 hc9 hc10 hc11 hc12 hc13 hc14 hc15 hc16
  have HV3 := hide ((unhide HV2).keep hG); have HB3 := hide (thenB (unhide HB2) hG); clear hG
  have hc0 : W3.cell? ⟨w.heap.size, 0, none⟩ = some (.int .i64 cas) := (unhide HV3).cell rfl
  have hc1 : W3.cell? ⟨w.heap.size, 1, none⟩ = some (.int .i64 ins) := (unhide HV3).cell rfl
  have hc2 : W3.cell? ⟨w.heap.size, 2, none⟩ = some (.int .i64 kd) := (unhide HV3).cell rfl
  have hc3 : W3.cell? ⟨w.heap.size, 3, none⟩ = some (.int .i64 gs) := (unhide HV3).cell rfl
  have hc4 : W3.cell? ⟨w.heap.size, 4, none⟩ = some (.int .i64 gc) := (unhide HV3).cell rfl
  have hc5 : W3.cell? ⟨w.heap.size, 5, none⟩ = some (.int .i64 gh) := (unhide HV3).cell rfl
  have hc6 : W3.cell? ⟨w.heap.size, 6, none⟩ = some (.int .i64 ga) := (unhide HV3).cell rfl
  have hc7 : W3.cell? ⟨w.heap.size, 7, none⟩ = some (.int .i64 cl) := (unhide HV3).cell rfl
  have hc8 : W3.cell? ⟨w.heap.size, 8, none⟩ = some (.int .i64 pl) := (unhide HV3).cell rfl
  have hc9 : W3.cell? ⟨w.heap.size, 9, none⟩ = some (.int .i64 se) := (unhide HV3).cell rfl
  have hc10 : W3.cell? ⟨w.heap.size, 10, none⟩ = some (.int .i64 co) := (unhide HV3).cell rfl
  have hc11 : W3.cell? ⟨w.heap.size, 11, none⟩ = some (.int .i64 po) := (unhide HV3).cell rfl
  have hc12 : W3.cell? ⟨w.heap.size, 12, none⟩ = some (.int .i64 am) := (unhide HV3).cell rfl
  have hc13 : W3.cell? ⟨w.heap.size, 13, none⟩ = some (.int .i64 hg) := (unhide HV3).cell rfl
  have hc14 : W3.cell? ⟨w.heap.size, 14, none⟩ = some (.int .i64 ag) := (unhide HV3).cell rfl
  have hc15 : W3.cell? ⟨w.heap.size, 15, none⟩ = some (.int .i64 fr) := (unhide HV3).cell rfl
  have hc16 : W3.cell? ⟨w.heap.size, 16, none⟩ = some (.int .i64 tt) := (unhide HV3).cell rfl
  go_wp2_with fail
  go_ret
  exact ⟨by simp, unhide HB3⟩
set_option maxRecDepth 100000 in
set_option maxHeartbeats 1000000 in
theorem rh7_any (r : Ru) (w : World) : Calls Tryz.prog 238 #[.agg (rC r).toArray] w fun x w' => x = .returned (.bool (rHold 7 r)) ∧ Below w.heap.size w w' := by
  obtain ⟨cas, ins, kd, ⟨gs, gc, gh, ga⟩, cl, pl, se, co, po, am, hg, ag, fr, tt⟩ := r
  unfold rHold
  dsimp only
  show Calls Tryz.prog 238 #[.agg #[.int .i64 cas, .int .i64 ins, .int .i64 kd, .int .i64 gs, .int .i64 gc, .int .i64 gh, .int .i64 ga, .int .i64 cl, .int .i64 pl, .int .i64 se, .int .i64 co, .int .i64 po, .int .i64 am, .int .i64 hg, .int .i64 ag, .int .i64 fr, .int .i64 tt]] w _
  have HC0 := hide fun W => club_any cl W
  obtain ⟨b0, hb0⟩ : ∃ b, b = (inR cl 0 191) := ⟨_, rfl⟩
  rw [← hb0] at HC0 ⊢
  clear hb0
  have HC1 := hide fun W => within_any am 1 1125899906842624 W
  obtain ⟨b1, hb1⟩ : ∃ b, b = (inR am 1 1125899906842624) := ⟨_, rfl⟩
  rw [← hb1] at HC1 ⊢
  clear hb1
  go_enter Tryz.func238, Tryz.ntmps238
  go_upto_region 1 with fail
  generalize hX1 : w.alloc _ = W1
  have hB1 : Below w.heap.size w W1 := hX1 ▸ (Below.refl _ _).alloc (Nat.le_refl _) _
  have HV1 := hide (boxedV w W1 [.int .i64 cas, .int .i64 ins, .int .i64 kd, .int .i64 gs, .int .i64 gc, .int .i64 gh, .int .i64 ga, .int .i64 cl, .int .i64 pl, .int .i64 se, .int .i64 co, .int .i64 po, .int .i64 am, .int .i64 hg, .int .i64 ag, .int .i64 fr, .int .i64 tt] 35 (by rw [← hX1]; rfl))
  have HB1 := hide hB1
  clear hX1 hB1
  have hc0 : W1.cell? ⟨w.heap.size, 0, none⟩ = some (.int .i64 cas) := (unhide HV1).cell rfl
  have hc1 : W1.cell? ⟨w.heap.size, 1, none⟩ = some (.int .i64 ins) := (unhide HV1).cell rfl
  have hc2 : W1.cell? ⟨w.heap.size, 2, none⟩ = some (.int .i64 kd) := (unhide HV1).cell rfl
  have hc3 : W1.cell? ⟨w.heap.size, 3, none⟩ = some (.int .i64 gs) := (unhide HV1).cell rfl
  have hc4 : W1.cell? ⟨w.heap.size, 4, none⟩ = some (.int .i64 gc) := (unhide HV1).cell rfl
  have hc5 : W1.cell? ⟨w.heap.size, 5, none⟩ = some (.int .i64 gh) := (unhide HV1).cell rfl
  have hc6 : W1.cell? ⟨w.heap.size, 6, none⟩ = some (.int .i64 ga) := (unhide HV1).cell rfl
  have hc7 : W1.cell? ⟨w.heap.size, 7, none⟩ = some (.int .i64 cl) := (unhide HV1).cell rfl
  have hc8 : W1.cell? ⟨w.heap.size, 8, none⟩ = some (.int .i64 pl) := (unhide HV1).cell rfl
  have hc9 : W1.cell? ⟨w.heap.size, 9, none⟩ = some (.int .i64 se) := (unhide HV1).cell rfl
  have hc10 : W1.cell? ⟨w.heap.size, 10, none⟩ = some (.int .i64 co) := (unhide HV1).cell rfl
  have hc11 : W1.cell? ⟨w.heap.size, 11, none⟩ = some (.int .i64 po) := (unhide HV1).cell rfl
  have hc12 : W1.cell? ⟨w.heap.size, 12, none⟩ = some (.int .i64 am) := (unhide HV1).cell rfl
  have hc13 : W1.cell? ⟨w.heap.size, 13, none⟩ = some (.int .i64 hg) := (unhide HV1).cell rfl
  have hc14 : W1.cell? ⟨w.heap.size, 14, none⟩ = some (.int .i64 ag) := (unhide HV1).cell rfl
  have hc15 : W1.cell? ⟨w.heap.size, 15, none⟩ = some (.int .i64 fr) := (unhide HV1).cell rfl
  have hc16 : W1.cell? ⟨w.heap.size, 16, none⟩ = some (.int .i64 tt) := (unhide HV1).cell rfl
  go_wp2_with fail
  refine ((unhide HC0) W1).mono ?_; rintro x W2 ⟨rfl, rfl⟩
  have HV2 := HV1; have HB2 := HB1; clear HV1 HB1
  cases b0
  case false =>
    go_wp2_with fail
    go_ret
    exact ⟨by simp, unhide HB2⟩
  go_wp2_with fail
  refine ((unhide HC1) W2).mono ?_; rintro x W3 ⟨rfl, rfl⟩
  have HV3 := HV2; have HB3 := HB2; clear HV2 HB2
  go_wp2_with fail
  go_ret
  exact ⟨by simp, unhide HB3⟩
set_option maxRecDepth 100000 in
set_option maxHeartbeats 1000000 in
theorem rh8_any (r : Ru) (w : World) : Calls Tryz.prog 240 #[.agg (rC r).toArray] w fun x w' => x = .returned (.bool (rHold 8 r)) ∧ Below w.heap.size w w' := by
  obtain ⟨cas, ins, kd, ⟨gs, gc, gh, ga⟩, cl, pl, se, co, po, am, hg, ag, fr, tt⟩ := r
  unfold rHold
  dsimp only
  show Calls Tryz.prog 240 #[.agg #[.int .i64 cas, .int .i64 ins, .int .i64 kd, .int .i64 gs, .int .i64 gc, .int .i64 gh, .int .i64 ga, .int .i64 cl, .int .i64 pl, .int .i64 se, .int .i64 co, .int .i64 po, .int .i64 am, .int .i64 hg, .int .i64 ag, .int .i64 fr, .int .i64 tt]] w _
  go_enter Tryz.func240, Tryz.ntmps240
  go_upto_region 1 with fail
  generalize hX1 : w.alloc _ = W1
  have hB1 : Below w.heap.size w W1 := hX1 ▸ (Below.refl _ _).alloc (Nat.le_refl _) _
  have HV1 := hide (boxedV w W1 [.int .i64 cas, .int .i64 ins, .int .i64 kd, .int .i64 gs, .int .i64 gc, .int .i64 gh, .int .i64 ga, .int .i64 cl, .int .i64 pl, .int .i64 se, .int .i64 co, .int .i64 po, .int .i64 am, .int .i64 hg, .int .i64 ag, .int .i64 fr, .int .i64 tt] 35 (by rw [← hX1]; rfl))
  have HB1 := hide hB1
  clear hX1 hB1
  have hc0 : W1.cell? ⟨w.heap.size, 0, none⟩ = some (.int .i64 cas) := (unhide HV1).cell rfl
  have hc1 : W1.cell? ⟨w.heap.size, 1, none⟩ = some (.int .i64 ins) := (unhide HV1).cell rfl
  have hc2 : W1.cell? ⟨w.heap.size, 2, none⟩ = some (.int .i64 kd) := (unhide HV1).cell rfl
  have hc3 : W1.cell? ⟨w.heap.size, 3, none⟩ = some (.int .i64 gs) := (unhide HV1).cell rfl
  have hc4 : W1.cell? ⟨w.heap.size, 4, none⟩ = some (.int .i64 gc) := (unhide HV1).cell rfl
  have hc5 : W1.cell? ⟨w.heap.size, 5, none⟩ = some (.int .i64 gh) := (unhide HV1).cell rfl
  have hc6 : W1.cell? ⟨w.heap.size, 6, none⟩ = some (.int .i64 ga) := (unhide HV1).cell rfl
  have hc7 : W1.cell? ⟨w.heap.size, 7, none⟩ = some (.int .i64 cl) := (unhide HV1).cell rfl
  have hc8 : W1.cell? ⟨w.heap.size, 8, none⟩ = some (.int .i64 pl) := (unhide HV1).cell rfl
  have hc9 : W1.cell? ⟨w.heap.size, 9, none⟩ = some (.int .i64 se) := (unhide HV1).cell rfl
  have hc10 : W1.cell? ⟨w.heap.size, 10, none⟩ = some (.int .i64 co) := (unhide HV1).cell rfl
  have hc11 : W1.cell? ⟨w.heap.size, 11, none⟩ = some (.int .i64 po) := (unhide HV1).cell rfl
  have hc12 : W1.cell? ⟨w.heap.size, 12, none⟩ = some (.int .i64 am) := (unhide HV1).cell rfl
  have hc13 : W1.cell? ⟨w.heap.size, 13, none⟩ = some (.int .i64 hg) := (unhide HV1).cell rfl
  have hc14 : W1.cell? ⟨w.heap.size, 14, none⟩ = some (.int .i64 ag) := (unhide HV1).cell rfl
  have hc15 : W1.cell? ⟨w.heap.size, 15, none⟩ = some (.int .i64 fr) := (unhide HV1).cell rfl
  have hc16 : W1.cell? ⟨w.heap.size, 16, none⟩ = some (.int .i64 tt) := (unhide HV1).cell rfl
  go_wp2_with fail
  go_ret
  exact ⟨rfl, unhide HB1⟩
end Go.Proofs.YtdmaopfaeigelaaGreatDoor
