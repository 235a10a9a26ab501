/- Digests compared. -/
import Derived.Test.YtceppmajbkmbdaaDoorDigSum
import Derived.ChangeKeysEq
namespace Go.Proofs.YtceppmajbkmbdaaDoor
set_option linter.unusedSimpArgs false
set_option linter.unusedVariables false
open Go.RowKit

theorem plain8 : Tryd.prog.plainKey 5 = true := by kernel_rfl
theorem cells8 : Tryd.prog.cellsOf 5 = 1 := by kernel_rfl
theorem eqItems_dv (d : Nat) (a b : List Int) (w : World) : ∀ (n k : Nat), k + n ≤ a.length → k + n ≤ b.length →
    (Op.eqItems (d + 1) 5 1 (a.map (Value.int .u8)).toArray (b.map (Value.int .u8)).toArray (List.range' k n)).run Tryd.prog w = .ok (decide ((a.drop k).take n = (b.drop k).take n)) w
  | 0, k, _, _ => by simp [Op.eqItems]
  | n + 1, k, ha, hb => by
    have hxa : (a.map (Value.int .u8)).toArray[k * 1]? = some (Value.int .u8 a[k]) := by simp [List.getElem?_eq_getElem (show k < a.length by omega)]
    have hxb : (b.map (Value.int .u8)).toArray[k * 1]? = some (Value.int .u8 b[k]) := by simp [List.getElem?_eq_getElem (show k < b.length by omega)]
    have e8 := run_equalIn_int (P := Tryd.prog) w d 5 .u8 .u8 a[k] b[k] (by kernel_rfl)
    rw [List.range'_succ]
    simp only [Op.eqItems, Sem.run_bind, run_part_plain w plain8 hxa, run_part_plain w plain8 hxb, Result.andThen_ok, e8]
    have IH := eqItems_dv d a b w n (k + 1) (by omega) (by omega)
    rw [List.drop_eq_getElem_cons (show k < a.length by omega), List.drop_eq_getElem_cons (show k < b.length by omega), List.take_succ_cons, List.take_succ_cons]
    by_cases h : a[k] = b[k]
    · simp only [h, beq_self_eq_true, Bool.not_true, Bool.false_eq_true, if_false, IH, List.cons.injEq, true_and]
    · have hb0 : (a[k] == b[k]) = false := by simpa using h
      simp [hb0, h]
theorem eq_dg (a b : List Int) (ha : a.length = 32) (hb : b.length = 32) (w : World) : (Op.equalIn 10000 24 (dv a) (dv b)).run Tryd.prog w = .ok (decide (a = b)) w := by
  obtain ⟨i, hi⟩ : ∃ i, Tryd.prog.info? 5 = some i := Option.isSome_iff_exists.1 (by kernel_rfl)
  rw [run_equalIn_array (P := Tryd.prog) w 9999 _ _ Tryd.underlying24 hi, cells8, List.range_eq_range']
  have := eqItems_dv 9998 a b w 32 0 (by omega) (by omega)
  rw [List.drop_zero, List.drop_zero, List.take_of_length_le (by omega), List.take_of_length_le (by omega)] at this
  exact this
theorem guard_dg : Tryd.prog.eqGuardType Tryd.prog.depth 24 = false := by kernel_rfl
end Go.Proofs.YtceppmajbkmbdaaDoor
