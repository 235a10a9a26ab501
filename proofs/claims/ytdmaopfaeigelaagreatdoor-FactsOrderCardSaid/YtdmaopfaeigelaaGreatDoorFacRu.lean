/- Contracts over the program of facts: two rulings compared. -/
import Derived.Test.YtdmaopfaeigelaaGreatDoorFacG
namespace Go.Proofs.YtdmaopfaeigelaaGreatDoor
set_option linter.unusedSimpArgs false
set_option linter.unusedVariables false
open Go.RowKit
def ruEq (x y : Ru) : Bool := decide (x.cas = y.cas) && decide (x.ins = y.ins) && decide (x.kind = y.kind) && decide (x.g.s = y.g.s) && decide (x.g.c = y.g.c) && decide (x.g.h = y.g.h) && decide (x.g.a = y.g.a) && decide (x.club = y.club) && decide (x.player = y.player) && decide (x.s = y.s) && decide (x.c = y.c) && decide (x.points = y.points) && decide (x.amount = y.amount) && decide (x.hg = y.hg) && decide (x.ag = y.ag) && decide (x.from_ = y.from_) && decide (x.to_ = y.to_)
theorem if_both (p : Prop) [Decidable p] (b : Bool) (W : World) : (if p then Result.ok (Value.bool b) W else Result.ok (Value.bool false) W) = Result.ok (Value.bool (decide p && b)) W := by
  by_cases h : p <;> simp [h]
theorem if_one (p : Prop) [Decidable p] (W : World) : (if p then Result.ok (Value.bool true) W else Result.ok (Value.bool false) W) = Result.ok (Value.bool (decide p)) W := by
  by_cases h : p <;> simp [h]
set_option maxRecDepth 100000 in
theorem ru_cmp (x y : Ru) (W : World) : (binOp .eql 35 (.agg (rC x).toArray) (.agg (rC y).toArray)).run Tryz.prog W = .ok (.bool (ruEq x y)) W := by
  obtain ⟨cas, ins, kd, ⟨gs, gc, gh, ga⟩, cl, pl, se, co, po, am, hg, ag, fr, tt⟩ := x
  obtain ⟨cas2, ins2, kd2, ⟨gs2, gc2, gh2, ga2⟩, cl2, pl2, se2, co2, po2, am2, hg2, ag2, fr2, tt2⟩ := y
  show (binOp .eql 35 (.agg #[.int .i64 cas, .int .i64 ins, .int .i64 kd, .int .i64 gs, .int .i64 gc, .int .i64 gh, .int .i64 ga, .int .i64 cl, .int .i64 pl, .int .i64 se, .int .i64 co, .int .i64 po, .int .i64 am, .int .i64 hg, .int .i64 ag, .int .i64 fr, .int .i64 tt]) (.agg #[.int .i64 cas2, .int .i64 ins2, .int .i64 kd2, .int .i64 gs2, .int .i64 gc2, .int .i64 gh2, .int .i64 ga2, .int .i64 cl2, .int .i64 pl2, .int .i64 se2, .int .i64 co2, .int .i64 po2, .int .i64 am2, .int .i64 hg2, .int .i64 ag2, .int .i64 fr2, .int .i64 tt2])).run Tryz.prog W = _
  go_simp
  simp only [if_one, if_both, ruEq, Bool.and_assoc, Bool.and_true]
set_option maxRecDepth 100000 in
theorem ru_guard (p q : Operand) (x y : Ru) (W : World) : (eqGuard .eql 35 p q (.agg (rC x).toArray) (.agg (rC y).toArray)).run Tryz.prog W = .ok () W := by
  obtain ⟨cas, ins, kd, ⟨gs, gc, gh, ga⟩, cl, pl, se, co, po, am, hg, ag, fr, tt⟩ := x
  obtain ⟨cas2, ins2, kd2, ⟨gs2, gc2, gh2, ga2⟩, cl2, pl2, se2, co2, po2, am2, hg2, ag2, fr2, tt2⟩ := y
  show (eqGuard .eql 35 p q (.agg #[.int .i64 cas, .int .i64 ins, .int .i64 kd, .int .i64 gs, .int .i64 gc, .int .i64 gh, .int .i64 ga, .int .i64 cl, .int .i64 pl, .int .i64 se, .int .i64 co, .int .i64 po, .int .i64 am, .int .i64 hg, .int .i64 ag, .int .i64 fr, .int .i64 tt]) (.agg #[.int .i64 cas2, .int .i64 ins2, .int .i64 kd2, .int .i64 gs2, .int .i64 gc2, .int .i64 gh2, .int .i64 ga2, .int .i64 cl2, .int .i64 pl2, .int .i64 se2, .int .i64 co2, .int .i64 po2, .int .i64 am2, .int .i64 hg2, .int .i64 ag2, .int .i64 fr2, .int .i64 tt2])).run Tryz.prog W = _
  go_simp
theorem wpList_rueq {ops : Array Oper} {rest : List Oper} {o : Oper} {a : Act} {W : World} {Q : Exit → Act → World → Prop} (hg : o.guard = none) (p q : Operand) (ho : o.op = .binOp .eql 35 p q 35) (x y : Ru)
    (hx : a.eval p = .agg (rC x).toArray) (hy : a.eval q = .agg (rC y).toArray) (h : wpList Tryz.prog ops Q rest (a.put o.dst (.bool (ruEq x y))) W) : wpList Tryz.prog ops Q (o :: rest) a W := by
  refine wpList_plain hg fun K' hK' => ?_
  unfold Oper.wp
  simp [execOp, ho, hx, hy, ru_guard, ru_cmp, Result.andThen]
  exact hK' _ _ h
end Go.Proofs.YtdmaopfaeigelaaGreatDoor
