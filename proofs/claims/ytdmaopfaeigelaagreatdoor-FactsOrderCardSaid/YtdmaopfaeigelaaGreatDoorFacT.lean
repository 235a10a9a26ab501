/- Contracts over the program of facts: facts compared. -/
import Derived.Test.YtdmaopfaeigelaaGreatDoorFacO
import Derived.Test.YtdmaopfaeigelaaGreatDoorFacS
import Derived.Test.YtdmaopfaeigelaaGreatDoorFacRu
import Derived.ChangeKeysEq
namespace Go.Proofs.YtdmaopfaeigelaaGreatDoor
set_option linter.unusedSimpArgs false
set_option linter.unusedVariables false
open Go.RowKit

/-- two values compared, where it is wanted -/
theorem wpList_cmpW {P : Program} {ops : Array Oper} {rest : List Oper} {o : Oper} {a : Act} {W : World} {Q : Exit → Act → World → Prop} (hw : Region.wanted o (yielded ops a.tmps) = true) (T T' : TypeId) (p q : Operand) (ho : o.op = .binOp .eql T p q T') (vx vy : Value) (b : Bool)
    (hx : a.eval p = vx) (hy : a.eval q = vy) (hg : (eqGuard .eql T p q vx vy).run P W = .ok () W) (hc : (binOp .eql T vx vy).run P W = .ok (.bool b) W) (h : wpList P ops Q rest (a.put o.dst (.bool b)) W) : wpList P ops Q (o :: rest) a W := by
  refine wpList_wanted hw fun K' hK' => ?_
  unfold Oper.wp
  simp [execOp, ho, hx, hy, hg, hc, Result.andThen]
  exact hK' _ _ h
theorem if_bool (p q : Bool) (W : World) : (if p = q then Result.ok (Value.bool true) W else Result.ok (Value.bool false) W) = Result.ok (Value.bool (p == q)) W := by
  cases p <;> cases q <;> rfl
def gmEq (x y : Gm) : Bool := (x.s == y.s) && (x.c == y.c) && (x.h == y.h) && (x.a == y.a)
def fxEq (x y : Fc) : Bool := gmEq x.xg y.xg && (x.venue == y.venue)
def apEq (x y : Fc) : Bool := (x.ac == y.ac) && (x.ai == y.ai) && (x.susp == y.susp)
def mvEq (x y : Fc) : Bool := (x.mp == y.mp) && (x.mt == y.mt)
theorem gmEq_iff (x y : Gm) : gmEq x y = true ↔ x = y := by
  obtain ⟨s, c, h, a⟩ := x
  obtain ⟨s2, c2, h2, a2⟩ := y
  simp [gmEq, and_assoc]
set_option maxRecDepth 100000 in
theorem gm_cmp (x y : Gm) (W : World) : (binOp .eql 26 (.agg (gC x).toArray) (.agg (gC y).toArray)).run Tryz.prog W = .ok (.bool (gmEq x y)) W := by
  show (binOp .eql 26 (.agg #[.int .i64 x.s, .int .i64 x.c, .int .i64 x.h, .int .i64 x.a]) (.agg #[.int .i64 y.s, .int .i64 y.c, .int .i64 y.h, .int .i64 y.a])).run Tryz.prog W = _
  go_simp
  simp only [if_one, if_both, gmEq, fxEq, apEq, mvEq, Bool.and_assoc, Bool.and_true, beq_dec]
  try rfl
  try (congr 2; simp [beq_dec, Bool.and_assoc])
set_option maxRecDepth 100000 in
theorem gm_guard (p q : Operand) (x y : Gm) (W : World) : (eqGuard .eql 26 p q (.agg (gC x).toArray) (.agg (gC y).toArray)).run Tryz.prog W = .ok () W := by
  show (eqGuard .eql 26 p q (.agg #[.int .i64 x.s, .int .i64 x.c, .int .i64 x.h, .int .i64 x.a]) (.agg #[.int .i64 y.s, .int .i64 y.c, .int .i64 y.h, .int .i64 y.a])).run Tryz.prog W = _
  go_simp
set_option maxRecDepth 100000 in
theorem fx_cmp (x y : Fc) (W : World) : (binOp .eql 28 (.agg (xC x.xg x.venue).toArray) (.agg (xC y.xg y.venue).toArray)).run Tryz.prog W = .ok (.bool (fxEq x y)) W := by
  show (binOp .eql 28 (.agg #[.int .i64 x.xg.s, .int .i64 x.xg.c, .int .i64 x.xg.h, .int .i64 x.xg.a, .int .i64 x.venue]) (.agg #[.int .i64 y.xg.s, .int .i64 y.xg.c, .int .i64 y.xg.h, .int .i64 y.xg.a, .int .i64 y.venue])).run Tryz.prog W = _
  go_simp
  simp only [if_one, if_both, gmEq, fxEq, apEq, mvEq, Bool.and_assoc, Bool.and_true, beq_dec]
  try rfl
  try (congr 2; simp [beq_dec, Bool.and_assoc])
set_option maxRecDepth 100000 in
theorem fx_guard (p q : Operand) (x y : Fc) (W : World) : (eqGuard .eql 28 p q (.agg (xC x.xg x.venue).toArray) (.agg (xC y.xg y.venue).toArray)).run Tryz.prog W = .ok () W := by
  show (eqGuard .eql 28 p q (.agg #[.int .i64 x.xg.s, .int .i64 x.xg.c, .int .i64 x.xg.h, .int .i64 x.xg.a, .int .i64 x.venue]) (.agg #[.int .i64 y.xg.s, .int .i64 y.xg.c, .int .i64 y.xg.h, .int .i64 y.xg.a, .int .i64 y.venue])).run Tryz.prog W = _
  go_simp
set_option maxRecDepth 100000 in
theorem ap_cmp (x y : Fc) (W : World) : (binOp .eql 37 (.agg (pC x).toArray) (.agg (pC y).toArray)).run Tryz.prog W = .ok (.bool (apEq x y)) W := by
  show (binOp .eql 37 (.agg #[.int .i64 x.ac, .int .i64 x.ai, .bool x.susp]) (.agg #[.int .i64 y.ac, .int .i64 y.ai, .bool y.susp])).run Tryz.prog W = _
  go_simp
  simp only [if_one, if_both, gmEq, fxEq, apEq, mvEq, Bool.and_assoc, Bool.and_true, beq_dec]
  try rfl
  try (congr 2; simp [beq_dec, Bool.and_assoc])
set_option maxRecDepth 100000 in
theorem ap_guard (p q : Operand) (x y : Fc) (W : World) : (eqGuard .eql 37 p q (.agg (pC x).toArray) (.agg (pC y).toArray)).run Tryz.prog W = .ok () W := by
  show (eqGuard .eql 37 p q (.agg #[.int .i64 x.ac, .int .i64 x.ai, .bool x.susp]) (.agg #[.int .i64 y.ac, .int .i64 y.ai, .bool y.susp])).run Tryz.prog W = _
  go_simp
set_option maxRecDepth 100000 in
theorem mv_cmp (x y : Fc) (W : World) : (binOp .eql 39 (.agg (mC x).toArray) (.agg (mC y).toArray)).run Tryz.prog W = .ok (.bool (mvEq x y)) W := by
  show (binOp .eql 39 (.agg #[.int .i64 x.mp, .int .i64 x.mt]) (.agg #[.int .i64 y.mp, .int .i64 y.mt])).run Tryz.prog W = _
  go_simp
  simp only [if_one, if_both, gmEq, fxEq, apEq, mvEq, Bool.and_assoc, Bool.and_true, beq_dec]
  try rfl
  try (congr 2; simp [beq_dec, Bool.and_assoc])
set_option maxRecDepth 100000 in
theorem mv_guard (p q : Operand) (x y : Fc) (W : World) : (eqGuard .eql 39 p q (.agg (mC x).toArray) (.agg (mC y).toArray)).run Tryz.prog W = .ok () W := by
  show (eqGuard .eql 39 p q (.agg #[.int .i64 x.mp, .int .i64 x.mt]) (.agg #[.int .i64 y.mp, .int .i64 y.mt])).run Tryz.prog W = _
  go_simp
theorem fplain8 : Tryz.prog.plainKey 5 = true := by kernel_rfl
theorem fcells8 : Tryz.prog.cellsOf 5 = 1 := by kernel_rfl
theorem feqItems (d : Nat) (a b : List Int) (w : World) : ∀ (n k : Nat), k + n ≤ a.length → k + n ≤ b.length →
    (Op.eqItems (d + 1) 5 1 (a.map (Value.int .u8)).toArray (b.map (Value.int .u8)).toArray (List.range' k n)).run Tryz.prog w = .ok (decide ((a.drop k).take n = (b.drop k).take n)) w
  | 0, k, _, _ => by simp [Op.eqItems]
  | n + 1, k, ha, hb => by
    have hxa : (a.map (Value.int .u8)).toArray[k * 1]? = some (Value.int .u8 a[k]) := by simp [List.getElem?_eq_getElem (show k < a.length by omega)]
    have hxb : (b.map (Value.int .u8)).toArray[k * 1]? = some (Value.int .u8 b[k]) := by simp [List.getElem?_eq_getElem (show k < b.length by omega)]
    have e8 := run_equalIn_int (P := Tryz.prog) w d 5 .u8 .u8 a[k] b[k] (by kernel_rfl)
    rw [List.range'_succ]
    simp only [Op.eqItems, Sem.run_bind, run_part_plain w fplain8 hxa, run_part_plain w fplain8 hxb, Result.andThen_ok, e8]
    have IH := feqItems d a b w n (k + 1) (by omega) (by omega)
    rw [List.drop_eq_getElem_cons (show k < a.length by omega), List.drop_eq_getElem_cons (show k < b.length by omega), List.take_succ_cons, List.take_succ_cons]
    by_cases h : a[k] = b[k]
    · simp only [h, beq_self_eq_true, Bool.not_true, Bool.false_eq_true, if_false, IH, List.cons.injEq, true_and]
    · have hb0 : (a[k] == b[k]) = false := by simpa using h
      simp [hb0, h]
theorem feq_dg (a b : List Int) (ha : a.length = 32) (hb : b.length = 32) (w : World) : (Op.equalIn 10000 43 (.agg (a.map (Value.int .u8)).toArray) (.agg (b.map (Value.int .u8)).toArray)).run Tryz.prog w = .ok (decide (a = b)) w := by
  obtain ⟨i, hi⟩ : ∃ i, Tryz.prog.info? 5 = some i := Option.isSome_iff_exists.1 (by kernel_rfl)
  rw [run_equalIn_array (P := Tryz.prog) w 9999 _ _ Tryz.underlying43 hi, fcells8, List.range_eq_range']
  have := feqItems 9998 a b w 32 0 (by omega) (by omega)
  rw [List.drop_zero, List.drop_zero, List.take_of_length_le (by omega), List.take_of_length_le (by omega)] at this
  exact this
theorem fguard_dg : Tryz.prog.eqGuardType Tryz.prog.depth 43 = false := by kernel_rfl
theorem dg_cmp (a b : List Int) (ha : a.length = 32) (hb : b.length = 32) (w : World) : (binOp .eql 43 (.agg (a.map (Value.int .u8)).toArray) (.agg (b.map (Value.int .u8)).toArray)).run Tryz.prog w = .ok (.bool (decide (a = b))) w := by
  simp only [run_eql_struct, feq_dg a b ha hb w, Result.andThen_ok, Sem.run_pure, Sem.run_bind]
theorem dg_guard (p q : Operand) (a b : List Int) (w : World) : (eqGuard .eql 43 p q (.agg (a.map (Value.int .u8)).toArray) (.agg (b.map (Value.int .u8)).toArray)).run Tryz.prog w = .ok () w := run_eqGuard_agg w _ _ _ _ _ _ fguard_dg
def enEq (x y : En) : Bool := (x.s == y.s) && (x.c == y.c) && (x.rules.toList == y.rules.toList) && decide (x.clubs = y.clubs)
def ltEq (x y : Fc) : Bool := (x.ls == y.ls) && (x.lc == y.lc) && decide (x.order = y.order)
def shEq (x y : Sh) : Bool := gmEq x.g y.g && (x.rf == y.rf) && (x.hg == y.hg) && (x.ag == y.ag) && (x.hp == y.hp) && (x.ap == y.ap) && decide (x.hs = y.hs) && decide (x.as_ = y.as_) && cdsEq x.hc y.hc && cdsEq x.ac y.ac
def fcEq (x y : Fc) : Bool := (x.kind == y.kind) && (x.day == y.day) && (x.known == y.known) && enEq x.e y.e && fxEq x y && shEq x.sh y.sh && ruEq x.r y.r && apEq x y && mvEq x y && ltEq x y && decide (x.void = y.void)
set_option maxRecDepth 100000 in
set_option maxHeartbeats 2000000 in
theorem sameEnt_any (x y : En) (A1 A2 : Option Addr) (k1 k2 : Nat) (w : World) (s1 : Sl w A1 x.clubs k1) (s2 : Sl w A2 y.clubs k2) :
    Calls Tryz.prog 55 #[.agg (eC x A1 k1).toArray, .agg (eC y A2 k2).toArray] w fun r w' => r = .returned (.bool (enEq x y)) ∧ Below w.heap.size w w' := by
  obtain ⟨R, hR⟩ : ∃ R, R = enEq x y := ⟨_, rfl⟩
  obtain ⟨b0, hb0⟩ : ∃ b, (x.s == y.s) = b := ⟨_, rfl⟩
  obtain ⟨b1, hb1⟩ : ∃ b, (x.c == y.c) = b := ⟨_, rfl⟩
  obtain ⟨b2, hb2⟩ : ∃ b, (x.rules.toList == y.rules.toList) = b := ⟨_, rfl⟩
  obtain ⟨b3, hb3⟩ : ∃ b, (decide (x.clubs = y.clubs)) = b := ⟨_, rfl⟩
  have HR : Hid (R = (b0 && b1 && b2 && b3)) := by
    have : R = (b0 && b1 && b2 && b3) := by
      rw [hR, ← hb0, ← hb1, ← hb2, ← hb3]; rfl
    exact this
  rw [← hR]
  clear hR
  have H1 := hide s1; have H2 := hide s2; have HL := hide hb3.symm
  unfold eC
  obtain ⟨n1, hn1⟩ : ∃ n, n = x.clubs.length := ⟨_, rfl⟩
  obtain ⟨n2, hn2⟩ : ∃ n, n = y.clubs.length := ⟨_, rfl⟩
  rw [← hn1, ← hn2]
  have HN1 := hide hn1; have HN2 := hide hn2
  clear s1 s2 hb3 hn1 hn2
  show Calls Tryz.prog 55 #[.agg #[.int .i64 x.s, .int .i64 x.c, .slice A1 n1 k1, .string x.rules], .agg #[.int .i64 y.s, .int .i64 y.c, .slice A2 n2 k2, .string y.rules]] w _
  go_enter Tryz.func55, Tryz.ntmps55
  go_upto_region 1 with fail
  generalize hX1 : w.alloc _ = W1
  have hB1 : Below w.heap.size w W1 := hX1 ▸ (Below.refl _ _).alloc (Nat.le_refl _) _
  have hv1 := boxedV w W1 [.int .i64 x.s, .int .i64 x.c, .slice A1 n1 k1, .string x.rules] 24 (by rw [← hX1]; rfl)
  have hz1 : W1.heap.size = w.heap.size + 1 := by rw [← hX1]; show (w.heap.push _).size = _; rw [Array.size_push]
  generalize hX2 : W1.alloc _ = W2
  have hB2 : Below W1.heap.size W1 W2 := hX2 ▸ (Below.refl _ _).alloc (Nat.le_refl _) _
  have HY := hide (boxedV W1 W2 [.int .i64 y.s, .int .i64 y.c, .slice A2 n2 k2, .string y.rules] 24 (by rw [← hX2]; rfl))
  rw [hz1] at HY
  have HX := hide (hv1.keep hB2)
  have HB := hide (thenB hB1 hB2)
  have hsz2 : W2.heap.size = w.heap.size + 2 := by rw [← hX2]; show (W1.heap.push _).size = _; rw [Array.size_push, hz1]
  have HSZ := hide hsz2
  clear hX1 hB1 hv1 hz1 hX2 hB2 hsz2
  have hc0 : W2.cell? ⟨w.heap.size, 0, none⟩ = some (.int .i64 x.s) := (unhide HX).cell rfl
  have hc1 : W2.cell? ⟨w.heap.size, 1, none⟩ = some (.int .i64 x.c) := (unhide HX).cell rfl
  have hc2 : W2.cell? ⟨w.heap.size, 2, none⟩ = some (.slice A1 n1 k1) := (unhide HX).cell rfl
  have hc3 : W2.cell? ⟨w.heap.size, 3, none⟩ = some (.string x.rules) := (unhide HX).cell rfl
  have hd0 : W2.cell? ⟨w.heap.size + 1, 0, none⟩ = some (.int .i64 y.s) := (unhide HY).cell rfl
  have hd1 : W2.cell? ⟨w.heap.size + 1, 1, none⟩ = some (.int .i64 y.c) := (unhide HY).cell rfl
  have hd2 : W2.cell? ⟨w.heap.size + 1, 2, none⟩ = some (.slice A2 n2 k2) := (unhide HY).cell rfl
  have hd3 : W2.cell? ⟨w.heap.size + 1, 3, none⟩ = some (.string y.rules) := (unhide HY).cell rfl
  cases b0
  case false =>
    go_wp2_with fail
    go_ret
    exact ⟨by rw [unhide HR]; rfl, unhide HB⟩
  cases b1
  case false =>
    go_wp2_with fail
    go_ret
    exact ⟨by rw [unhide HR]; rfl, unhide HB⟩
  cases b2
  case false =>
    go_wp2_with fail
    go_ret
    exact ⟨by rw [unhide HR]; rfl, unhide HB⟩
  go_wp2_with fail
  refine (eqInts_any W2 A1 n1 k1 x.clubs (unhide HN1) ((unhide H1).keep (unhide HB)) A2 n2 k2 y.clubs (unhide HN2) ((unhide H2).keep (unhide HB))).mono ?_; rintro x W3 ⟨rfl, hG⟩
  have HB3 := hide (thenB (unhide HB) hG)
  clear hG
  go_wp2_with fail
  go_ret
  exact ⟨by rw [unhide HR, unhide HL]; rfl, unhide HB3⟩
set_option maxRecDepth 100000 in
set_option maxHeartbeats 2000000 in
theorem sameLt_any (x y : Fc) (A1 A2 : Option Addr) (k1 k2 : Nat) (w : World) (s1 : Sl w A1 x.order k1) (s2 : Sl w A2 y.order k2) :
    Calls Tryz.prog 57 #[.agg (lC x.ls x.lc x.order A1 k1).toArray, .agg (lC y.ls y.lc y.order A2 k2).toArray] w fun r w' => r = .returned (.bool (ltEq x y)) ∧ Below w.heap.size w w' := by
  obtain ⟨R, hR⟩ : ∃ R, R = ltEq x y := ⟨_, rfl⟩
  obtain ⟨b0, hb0⟩ : ∃ b, (x.ls == y.ls) = b := ⟨_, rfl⟩
  obtain ⟨b1, hb1⟩ : ∃ b, (x.lc == y.lc) = b := ⟨_, rfl⟩
  obtain ⟨b2, hb2⟩ : ∃ b, (decide (x.order = y.order)) = b := ⟨_, rfl⟩
  have HR : Hid (R = (b0 && b1 && b2)) := by
    have : R = (b0 && b1 && b2) := by
      rw [hR, ← hb0, ← hb1, ← hb2]; rfl
    exact this
  rw [← hR]
  clear hR
  have H1 := hide s1; have H2 := hide s2; have HL := hide hb2.symm
  unfold lC
  obtain ⟨n1, hn1⟩ : ∃ n, n = x.order.length := ⟨_, rfl⟩
  obtain ⟨n2, hn2⟩ : ∃ n, n = y.order.length := ⟨_, rfl⟩
  rw [← hn1, ← hn2]
  have HN1 := hide hn1; have HN2 := hide hn2
  clear s1 s2 hb2 hn1 hn2
  show Calls Tryz.prog 57 #[.agg #[.int .i64 x.ls, .int .i64 x.lc, .slice A1 n1 k1], .agg #[.int .i64 y.ls, .int .i64 y.lc, .slice A2 n2 k2]] w _
  go_enter Tryz.func57, Tryz.ntmps57
  go_upto_region 1 with fail
  generalize hX1 : w.alloc _ = W1
  have hB1 : Below w.heap.size w W1 := hX1 ▸ (Below.refl _ _).alloc (Nat.le_refl _) _
  have hv1 := boxedV w W1 [.int .i64 x.ls, .int .i64 x.lc, .slice A1 n1 k1] 41 (by rw [← hX1]; rfl)
  have hz1 : W1.heap.size = w.heap.size + 1 := by rw [← hX1]; show (w.heap.push _).size = _; rw [Array.size_push]
  generalize hX2 : W1.alloc _ = W2
  have hB2 : Below W1.heap.size W1 W2 := hX2 ▸ (Below.refl _ _).alloc (Nat.le_refl _) _
  have HY := hide (boxedV W1 W2 [.int .i64 y.ls, .int .i64 y.lc, .slice A2 n2 k2] 41 (by rw [← hX2]; rfl))
  rw [hz1] at HY
  have HX := hide (hv1.keep hB2)
  have HB := hide (thenB hB1 hB2)
  have hsz2 : W2.heap.size = w.heap.size + 2 := by rw [← hX2]; show (W1.heap.push _).size = _; rw [Array.size_push, hz1]
  have HSZ := hide hsz2
  clear hX1 hB1 hv1 hz1 hX2 hB2 hsz2
  have hc0 : W2.cell? ⟨w.heap.size, 0, none⟩ = some (.int .i64 x.ls) := (unhide HX).cell rfl
  have hc1 : W2.cell? ⟨w.heap.size, 1, none⟩ = some (.int .i64 x.lc) := (unhide HX).cell rfl
  have hc2 : W2.cell? ⟨w.heap.size, 2, none⟩ = some (.slice A1 n1 k1) := (unhide HX).cell rfl
  have hd0 : W2.cell? ⟨w.heap.size + 1, 0, none⟩ = some (.int .i64 y.ls) := (unhide HY).cell rfl
  have hd1 : W2.cell? ⟨w.heap.size + 1, 1, none⟩ = some (.int .i64 y.lc) := (unhide HY).cell rfl
  have hd2 : W2.cell? ⟨w.heap.size + 1, 2, none⟩ = some (.slice A2 n2 k2) := (unhide HY).cell rfl
  cases b0
  case false =>
    go_wp2_with fail
    go_ret
    exact ⟨by rw [unhide HR]; rfl, unhide HB⟩
  cases b1
  case false =>
    go_wp2_with fail
    go_ret
    exact ⟨by rw [unhide HR]; rfl, unhide HB⟩
  go_wp2_with fail
  refine (eqInts_any W2 A1 n1 k1 x.order (unhide HN1) ((unhide H1).keep (unhide HB)) A2 n2 k2 y.order (unhide HN2) ((unhide H2).keep (unhide HB))).mono ?_; rintro x W3 ⟨rfl, hG⟩
  have HB3 := hide (thenB (unhide HB) hG)
  clear hG
  go_wp2_with fail
  go_ret
  exact ⟨by rw [unhide HR, unhide HL]; rfl, unhide HB3⟩
theorem VsAt.sg {w : World} {b : Nat} {t : TypeId} {s : Sh} {a : Ad} (h : VsAt w b t (sC s a)) : w.rangeAt b 0 (gC s.g) := range_app h 0 (p := []) rfl rfl
theorem infoGm : (Tryz.prog.info? 26).map (·.size) = some 4 := by kernel_rfl
set_option maxRecDepth 100000 in
set_option maxHeartbeats 2000000 in
theorem sameSh_any (x y : Sh) (a c : Ad) (w : World) (f1 : Sl w a.hs x.hs a.nhs ∧ Sl w c.hs y.hs c.nhs) (f2 : Sl w a.as_ x.as_ a.nas ∧ Sl w c.as_ y.as_ c.nas) (f3 : Sc w a.hc x.hc a.nhc ∧ Sc w c.hc y.hc c.nhc) (f4 : Sc w a.ac x.ac a.nac ∧ Sc w c.ac y.ac c.nac) :
    Calls Tryz.prog 56 #[.agg (sC x a).toArray, .agg (sC y c).toArray] w fun r w' => r = .returned (.bool (shEq x y)) ∧ Below w.heap.size w w' := by
  obtain ⟨R, hR⟩ : ∃ R, R = shEq x y := ⟨_, rfl⟩
  obtain ⟨b0, hb0⟩ : ∃ b, (gmEq x.g y.g) = b := ⟨_, rfl⟩
  obtain ⟨b1, hb1⟩ : ∃ b, (x.rf == y.rf) = b := ⟨_, rfl⟩
  obtain ⟨b2, hb2⟩ : ∃ b, (x.hg == y.hg) = b := ⟨_, rfl⟩
  obtain ⟨b3, hb3⟩ : ∃ b, (x.ag == y.ag) = b := ⟨_, rfl⟩
  obtain ⟨b4, hb4⟩ : ∃ b, (x.hp == y.hp) = b := ⟨_, rfl⟩
  obtain ⟨b5, hb5⟩ : ∃ b, (x.ap == y.ap) = b := ⟨_, rfl⟩
  obtain ⟨b6, hb6⟩ : ∃ b, (decide (x.hs = y.hs)) = b := ⟨_, rfl⟩
  obtain ⟨b7, hb7⟩ : ∃ b, (decide (x.as_ = y.as_)) = b := ⟨_, rfl⟩
  obtain ⟨b8, hb8⟩ : ∃ b, (cdsEq x.hc y.hc) = b := ⟨_, rfl⟩
  obtain ⟨b9, hb9⟩ : ∃ b, (cdsEq x.ac y.ac) = b := ⟨_, rfl⟩
  have HR : Hid (R = (b0 && b1 && b2 && b3 && b4 && b5 && b6 && b7 && b8 && b9)) := by
    have : R = (b0 && b1 && b2 && b3 && b4 && b5 && b6 && b7 && b8 && b9) := by
      rw [hR, ← hb0, ← hb1, ← hb2, ← hb3, ← hb4, ← hb5, ← hb6, ← hb7, ← hb8, ← hb9]; rfl
    exact this
  rw [← hR]
  clear hR
  have F_hs := hide f1; have F_as_ := hide f2; have F_hc := hide f3; have F_ac := hide f4
  clear f1 f2 f3 f4
  obtain ⟨cx, hcx⟩ : ∃ zz, zz = sC x a := ⟨_, rfl⟩
  obtain ⟨cy, hcy⟩ : ∃ zz, zz = sC y c := ⟨_, rfl⟩
  rw [← hcx, ← hcy]
  have HCX := hide hcx; have HCY := hide hcy
  clear hcx hcy
  go_enter Tryz.func56, Tryz.ntmps56
  go_upto_region 1 with fail
  generalize hX1 : w.alloc _ = W1
  have hB1 : Below w.heap.size w W1 := hX1 ▸ (Below.refl _ _).alloc (Nat.le_refl _) _
  have hv1 := boxedV w W1 cx 31 (by rw [← hX1]; rfl)
  have hz1 : W1.heap.size = w.heap.size + 1 := by rw [← hX1]; show (w.heap.push _).size = _; rw [Array.size_push]
  generalize hX2 : W1.alloc _ = W2
  have hB2 : Below W1.heap.size W1 W2 := hX2 ▸ (Below.refl _ _).alloc (Nat.le_refl _) _
  have HY := hide (boxedV W1 W2 cy 31 (by rw [← hX2]; rfl))
  rw [hz1] at HY
  have HX := hide (hv1.keep hB2)
  have HB := hide (thenB hB1 hB2)
  have hsz2 : W2.heap.size = w.heap.size + 2 := by rw [← hX2]; show (W1.heap.push _).size = _; rw [Array.size_push, hz1]
  have HSZ := hide hsz2
  clear hX1 hB1 hv1 hz1 hX2 hB2 hsz2
  rw [unhide HCX] at HX
  rw [unhide HCY] at HY
  clear HCX HCY
  refine wp_region_lit ?_
  refine wpList_plain rfl fun Kt hKt => ?_
  go_simp
  refine hKt _ _ ?_
  clear hKt Kt
  try simp only [List.getElem_toArray, List.getElem_cons_zero, List.getElem_cons_succ, Act.put, List.setIfInBounds_toArray, List.set_cons_zero, List.set_cons_succ]
  refine wpList_vgload (by kernel_rfl) 26 (.tmp 5) rfl w.heap.size 0 rfl _ Tryz.underlying26 rfl (gC x.g) infoGm (unhide HX).sg ?_
  try simp only [List.getElem_toArray, List.getElem_cons_zero, List.getElem_cons_succ, Act.put, List.setIfInBounds_toArray, List.set_cons_zero, List.set_cons_succ]
  refine wpList_plain rfl fun Kt hKt => ?_
  go_simp
  refine hKt _ _ ?_
  clear hKt Kt
  try simp only [List.getElem_toArray, List.getElem_cons_zero, List.getElem_cons_succ, Act.put, List.setIfInBounds_toArray, List.set_cons_zero, List.set_cons_succ]
  refine wpList_vgload (by kernel_rfl) 26 (.tmp 7) rfl (w.heap.size + 1) 0 rfl _ Tryz.underlying26 rfl (gC y.g) infoGm (unhide HY).sg ?_
  try simp only [List.getElem_toArray, List.getElem_cons_zero, List.getElem_cons_succ, Act.put, List.setIfInBounds_toArray, List.set_cons_zero, List.set_cons_succ]
  refine wpList_cmpW (by kernel_rfl) 26 26 (.tmp 6) (.tmp 8) rfl _ _ b0 rfl rfl (gm_guard _ _ x.g y.g _) (by rw [← hb0]; exact gm_cmp x.g y.g _) ?_
  try simp only [List.getElem_toArray, List.getElem_cons_zero, List.getElem_cons_succ, Act.put, List.setIfInBounds_toArray, List.set_cons_zero, List.set_cons_succ]
  clear hb0
  cases b0
  case false =>
    go_wp2_with fail
    go_ret
    exact ⟨by rw [unhide HR]; rfl, unhide HB⟩
  refine wpList_plain rfl fun Kt hKt => ?_
  go_simp
  refine hKt _ _ ?_
  clear hKt Kt
  try simp only [List.getElem_toArray, List.getElem_cons_zero, List.getElem_cons_succ, Act.put, List.setIfInBounds_toArray, List.set_cons_zero, List.set_cons_succ]
  have hc := (unhide HX).cell (j := 4) (v := .int .i64 x.rf) rfl
  have hd := (unhide HY).cell (j := 4) (v := .int .i64 y.rf) rfl
  cases b1
  case false =>
    go_wp2_with fail
    go_ret
    exact ⟨by rw [unhide HR]; rfl, unhide HB⟩
  refine wpList_wanted (by kernel_rfl) fun Kt hKt => ?_
  go_simp
  refine hKt _ _ ?_
  clear hKt Kt
  try simp only [List.getElem_toArray, List.getElem_cons_zero, List.getElem_cons_succ, Act.put, List.setIfInBounds_toArray, List.set_cons_zero, List.set_cons_succ]
  refine wpList_wanted (by kernel_rfl) fun Kt hKt => ?_
  go_simp
  refine hKt _ _ ?_
  clear hKt Kt
  try simp only [List.getElem_toArray, List.getElem_cons_zero, List.getElem_cons_succ, Act.put, List.setIfInBounds_toArray, List.set_cons_zero, List.set_cons_succ]
  refine wpList_wanted (by kernel_rfl) fun Kt hKt => ?_
  go_simp
  refine hKt _ _ ?_
  clear hKt Kt
  try simp only [List.getElem_toArray, List.getElem_cons_zero, List.getElem_cons_succ, Act.put, List.setIfInBounds_toArray, List.set_cons_zero, List.set_cons_succ]
  refine wpList_wanted (by kernel_rfl) fun Kt hKt => ?_
  go_simp
  refine hKt _ _ ?_
  clear hKt Kt
  try simp only [List.getElem_toArray, List.getElem_cons_zero, List.getElem_cons_succ, Act.put, List.setIfInBounds_toArray, List.set_cons_zero, List.set_cons_succ]
  refine wpList_wanted (by kernel_rfl) fun Kt hKt => ?_
  go_simp
  refine hKt _ _ ?_
  clear hKt Kt
  try simp only [List.getElem_toArray, List.getElem_cons_zero, List.getElem_cons_succ, Act.put, List.setIfInBounds_toArray, List.set_cons_zero, List.set_cons_succ]
  clear hc hd
  refine wpList_plain rfl fun Kt hKt => ?_
  go_simp
  refine hKt _ _ ?_
  clear hKt Kt
  try simp only [List.getElem_toArray, List.getElem_cons_zero, List.getElem_cons_succ, Act.put, List.setIfInBounds_toArray, List.set_cons_zero, List.set_cons_succ]
  refine wpList_plain rfl fun Kt hKt => ?_
  go_simp
  refine hKt _ _ ?_
  clear hKt Kt
  try simp only [List.getElem_toArray, List.getElem_cons_zero, List.getElem_cons_succ, Act.put, List.setIfInBounds_toArray, List.set_cons_zero, List.set_cons_succ]
  have hc := (unhide HX).cell (j := 5) (v := .int .i64 x.hg) rfl
  have hd := (unhide HY).cell (j := 5) (v := .int .i64 y.hg) rfl
  cases b2
  case false =>
    go_wp2_with fail
    go_ret
    exact ⟨by rw [unhide HR]; rfl, unhide HB⟩
  refine wpList_wanted (by kernel_rfl) fun Kt hKt => ?_
  go_simp
  refine hKt _ _ ?_
  clear hKt Kt
  try simp only [List.getElem_toArray, List.getElem_cons_zero, List.getElem_cons_succ, Act.put, List.setIfInBounds_toArray, List.set_cons_zero, List.set_cons_succ]
  refine wpList_wanted (by kernel_rfl) fun Kt hKt => ?_
  go_simp
  refine hKt _ _ ?_
  clear hKt Kt
  try simp only [List.getElem_toArray, List.getElem_cons_zero, List.getElem_cons_succ, Act.put, List.setIfInBounds_toArray, List.set_cons_zero, List.set_cons_succ]
  refine wpList_wanted (by kernel_rfl) fun Kt hKt => ?_
  go_simp
  refine hKt _ _ ?_
  clear hKt Kt
  try simp only [List.getElem_toArray, List.getElem_cons_zero, List.getElem_cons_succ, Act.put, List.setIfInBounds_toArray, List.set_cons_zero, List.set_cons_succ]
  refine wpList_wanted (by kernel_rfl) fun Kt hKt => ?_
  go_simp
  refine hKt _ _ ?_
  clear hKt Kt
  try simp only [List.getElem_toArray, List.getElem_cons_zero, List.getElem_cons_succ, Act.put, List.setIfInBounds_toArray, List.set_cons_zero, List.set_cons_succ]
  refine wpList_wanted (by kernel_rfl) fun Kt hKt => ?_
  go_simp
  refine hKt _ _ ?_
  clear hKt Kt
  try simp only [List.getElem_toArray, List.getElem_cons_zero, List.getElem_cons_succ, Act.put, List.setIfInBounds_toArray, List.set_cons_zero, List.set_cons_succ]
  clear hc hd
  refine wpList_plain rfl fun Kt hKt => ?_
  go_simp
  refine hKt _ _ ?_
  clear hKt Kt
  try simp only [List.getElem_toArray, List.getElem_cons_zero, List.getElem_cons_succ, Act.put, List.setIfInBounds_toArray, List.set_cons_zero, List.set_cons_succ]
  refine wpList_plain rfl fun Kt hKt => ?_
  go_simp
  refine hKt _ _ ?_
  clear hKt Kt
  try simp only [List.getElem_toArray, List.getElem_cons_zero, List.getElem_cons_succ, Act.put, List.setIfInBounds_toArray, List.set_cons_zero, List.set_cons_succ]
  have hc := (unhide HX).cell (j := 6) (v := .int .i64 x.ag) rfl
  have hd := (unhide HY).cell (j := 6) (v := .int .i64 y.ag) rfl
  cases b3
  case false =>
    go_wp2_with fail
    go_ret
    exact ⟨by rw [unhide HR]; rfl, unhide HB⟩
  refine wpList_wanted (by kernel_rfl) fun Kt hKt => ?_
  go_simp
  refine hKt _ _ ?_
  clear hKt Kt
  try simp only [List.getElem_toArray, List.getElem_cons_zero, List.getElem_cons_succ, Act.put, List.setIfInBounds_toArray, List.set_cons_zero, List.set_cons_succ]
  refine wpList_wanted (by kernel_rfl) fun Kt hKt => ?_
  go_simp
  refine hKt _ _ ?_
  clear hKt Kt
  try simp only [List.getElem_toArray, List.getElem_cons_zero, List.getElem_cons_succ, Act.put, List.setIfInBounds_toArray, List.set_cons_zero, List.set_cons_succ]
  refine wpList_wanted (by kernel_rfl) fun Kt hKt => ?_
  go_simp
  refine hKt _ _ ?_
  clear hKt Kt
  try simp only [List.getElem_toArray, List.getElem_cons_zero, List.getElem_cons_succ, Act.put, List.setIfInBounds_toArray, List.set_cons_zero, List.set_cons_succ]
  refine wpList_wanted (by kernel_rfl) fun Kt hKt => ?_
  go_simp
  refine hKt _ _ ?_
  clear hKt Kt
  try simp only [List.getElem_toArray, List.getElem_cons_zero, List.getElem_cons_succ, Act.put, List.setIfInBounds_toArray, List.set_cons_zero, List.set_cons_succ]
  refine wpList_wanted (by kernel_rfl) fun Kt hKt => ?_
  go_simp
  refine hKt _ _ ?_
  clear hKt Kt
  try simp only [List.getElem_toArray, List.getElem_cons_zero, List.getElem_cons_succ, Act.put, List.setIfInBounds_toArray, List.set_cons_zero, List.set_cons_succ]
  clear hc hd
  refine wpList_plain rfl fun Kt hKt => ?_
  go_simp
  refine hKt _ _ ?_
  clear hKt Kt
  try simp only [List.getElem_toArray, List.getElem_cons_zero, List.getElem_cons_succ, Act.put, List.setIfInBounds_toArray, List.set_cons_zero, List.set_cons_succ]
  refine wpList_plain rfl fun Kt hKt => ?_
  go_simp
  refine hKt _ _ ?_
  clear hKt Kt
  try simp only [List.getElem_toArray, List.getElem_cons_zero, List.getElem_cons_succ, Act.put, List.setIfInBounds_toArray, List.set_cons_zero, List.set_cons_succ]
  have hc := (unhide HX).cell (j := 7) (v := .int .i64 x.hp) rfl
  have hd := (unhide HY).cell (j := 7) (v := .int .i64 y.hp) rfl
  cases b4
  case false =>
    go_wp2_with fail
    go_ret
    exact ⟨by rw [unhide HR]; rfl, unhide HB⟩
  refine wpList_wanted (by kernel_rfl) fun Kt hKt => ?_
  go_simp
  refine hKt _ _ ?_
  clear hKt Kt
  try simp only [List.getElem_toArray, List.getElem_cons_zero, List.getElem_cons_succ, Act.put, List.setIfInBounds_toArray, List.set_cons_zero, List.set_cons_succ]
  refine wpList_wanted (by kernel_rfl) fun Kt hKt => ?_
  go_simp
  refine hKt _ _ ?_
  clear hKt Kt
  try simp only [List.getElem_toArray, List.getElem_cons_zero, List.getElem_cons_succ, Act.put, List.setIfInBounds_toArray, List.set_cons_zero, List.set_cons_succ]
  refine wpList_wanted (by kernel_rfl) fun Kt hKt => ?_
  go_simp
  refine hKt _ _ ?_
  clear hKt Kt
  try simp only [List.getElem_toArray, List.getElem_cons_zero, List.getElem_cons_succ, Act.put, List.setIfInBounds_toArray, List.set_cons_zero, List.set_cons_succ]
  refine wpList_wanted (by kernel_rfl) fun Kt hKt => ?_
  go_simp
  refine hKt _ _ ?_
  clear hKt Kt
  try simp only [List.getElem_toArray, List.getElem_cons_zero, List.getElem_cons_succ, Act.put, List.setIfInBounds_toArray, List.set_cons_zero, List.set_cons_succ]
  refine wpList_wanted (by kernel_rfl) fun Kt hKt => ?_
  go_simp
  refine hKt _ _ ?_
  clear hKt Kt
  try simp only [List.getElem_toArray, List.getElem_cons_zero, List.getElem_cons_succ, Act.put, List.setIfInBounds_toArray, List.set_cons_zero, List.set_cons_succ]
  clear hc hd
  refine wpList_plain rfl fun Kt hKt => ?_
  go_simp
  refine hKt _ _ ?_
  clear hKt Kt
  try simp only [List.getElem_toArray, List.getElem_cons_zero, List.getElem_cons_succ, Act.put, List.setIfInBounds_toArray, List.set_cons_zero, List.set_cons_succ]
  refine wpList_plain rfl fun Kt hKt => ?_
  go_simp
  refine hKt _ _ ?_
  clear hKt Kt
  try simp only [List.getElem_toArray, List.getElem_cons_zero, List.getElem_cons_succ, Act.put, List.setIfInBounds_toArray, List.set_cons_zero, List.set_cons_succ]
  have hc := (unhide HX).cell (j := 8) (v := .int .i64 x.ap) rfl
  have hd := (unhide HY).cell (j := 8) (v := .int .i64 y.ap) rfl
  cases b5
  case false =>
    go_wp2_with fail
    go_ret
    exact ⟨by rw [unhide HR]; rfl, unhide HB⟩
  refine wpList_wanted (by kernel_rfl) fun Kt hKt => ?_
  go_simp
  refine hKt _ _ ?_
  clear hKt Kt
  try simp only [List.getElem_toArray, List.getElem_cons_zero, List.getElem_cons_succ, Act.put, List.setIfInBounds_toArray, List.set_cons_zero, List.set_cons_succ]
  refine wpList_wanted (by kernel_rfl) fun Kt hKt => ?_
  go_simp
  refine hKt _ _ ?_
  clear hKt Kt
  try simp only [List.getElem_toArray, List.getElem_cons_zero, List.getElem_cons_succ, Act.put, List.setIfInBounds_toArray, List.set_cons_zero, List.set_cons_succ]
  refine wpList_wanted (by kernel_rfl) fun Kt hKt => ?_
  go_simp
  refine hKt _ _ ?_
  clear hKt Kt
  try simp only [List.getElem_toArray, List.getElem_cons_zero, List.getElem_cons_succ, Act.put, List.setIfInBounds_toArray, List.set_cons_zero, List.set_cons_succ]
  refine wpList_wanted (by kernel_rfl) fun Kt hKt => ?_
  go_simp
  refine hKt _ _ ?_
  clear hKt Kt
  try simp only [List.getElem_toArray, List.getElem_cons_zero, List.getElem_cons_succ, Act.put, List.setIfInBounds_toArray, List.set_cons_zero, List.set_cons_succ]
  refine wpList_wanted (by kernel_rfl) fun Kt hKt => ?_
  go_simp
  refine hKt _ _ ?_
  clear hKt Kt
  try simp only [List.getElem_toArray, List.getElem_cons_zero, List.getElem_cons_succ, Act.put, List.setIfInBounds_toArray, List.set_cons_zero, List.set_cons_succ]
  clear hc hd
  refine wpList_plain rfl fun Kt hKt => ?_
  go_simp
  refine hKt _ _ ?_
  clear hKt Kt
  try simp only [List.getElem_toArray, List.getElem_cons_zero, List.getElem_cons_succ, Act.put, List.setIfInBounds_toArray, List.set_cons_zero, List.set_cons_succ]
  refine wpList_plain rfl fun Kt hKt => ?_
  go_simp
  refine hKt _ _ ?_
  clear hKt Kt
  try simp only [List.getElem_toArray, List.getElem_cons_zero, List.getElem_cons_succ, Act.put, List.setIfInBounds_toArray, List.set_cons_zero, List.set_cons_succ]
  have hc := (unhide HX).cell (j := 9) (v := .slice a.hs x.hs.length a.nhs) rfl
  refine wpList_wanted (by kernel_rfl) fun Kt hKt => ?_
  go_simp
  refine hKt _ _ ?_
  clear hKt Kt
  try simp only [List.getElem_toArray, List.getElem_cons_zero, List.getElem_cons_succ, Act.put, List.setIfInBounds_toArray, List.set_cons_zero, List.set_cons_succ]
  refine wpList_wanted (by kernel_rfl) fun Kt hKt => ?_
  go_simp
  refine hKt _ _ ?_
  clear hKt Kt
  try simp only [List.getElem_toArray, List.getElem_cons_zero, List.getElem_cons_succ, Act.put, List.setIfInBounds_toArray, List.set_cons_zero, List.set_cons_succ]
  clear hc
  have hc := (unhide HY).cell (j := 9) (v := .slice c.hs y.hs.length c.nhs) rfl
  refine wpList_wanted (by kernel_rfl) fun Kt hKt => ?_
  go_simp
  refine hKt _ _ ?_
  clear hKt Kt
  try simp only [List.getElem_toArray, List.getElem_cons_zero, List.getElem_cons_succ, Act.put, List.setIfInBounds_toArray, List.set_cons_zero, List.set_cons_succ]
  refine wpList_wanted (by kernel_rfl) fun Kt hKt => ?_
  go_simp
  refine hKt _ _ ?_
  clear hKt Kt
  try simp only [List.getElem_toArray, List.getElem_cons_zero, List.getElem_cons_succ, Act.put, List.setIfInBounds_toArray, List.set_cons_zero, List.set_cons_succ]
  clear hc
  refine wpList_wanted (by kernel_rfl) fun Kt hKt => ?_
  go_simp
  refine (eqInts_any W2 a.hs x.hs.length a.nhs x.hs rfl ((unhide F_hs).1.keep (unhide HB)) c.hs y.hs.length c.nhs y.hs rfl ((unhide F_hs).2.keep (unhide HB))).mono ?_; rintro x W3 ⟨rfl, hG⟩
  dsimp only
  rw [hb6]
  refine hKt _ _ ?_
  clear hKt Kt
  have HX := hide ((unhide HX).keep hG); have HY := hide ((unhide HY).keep hG); have HB := hide (thenB (unhide HB) hG)
  clear hG
  try simp only [List.getElem_toArray, List.getElem_cons_zero, List.getElem_cons_succ, Act.put, List.setIfInBounds_toArray, List.set_cons_zero, List.set_cons_succ]
  clear hb6
  cases b6
  case false =>
    go_wp2_with fail
    go_ret
    exact ⟨by rw [unhide HR]; rfl, unhide HB⟩
  refine wpList_plain rfl fun Kt hKt => ?_
  go_simp
  refine hKt _ _ ?_
  clear hKt Kt
  try simp only [List.getElem_toArray, List.getElem_cons_zero, List.getElem_cons_succ, Act.put, List.setIfInBounds_toArray, List.set_cons_zero, List.set_cons_succ]
  refine wpList_plain rfl fun Kt hKt => ?_
  go_simp
  refine hKt _ _ ?_
  clear hKt Kt
  try simp only [List.getElem_toArray, List.getElem_cons_zero, List.getElem_cons_succ, Act.put, List.setIfInBounds_toArray, List.set_cons_zero, List.set_cons_succ]
  have hc := (unhide HX).cell (j := 10) (v := .slice a.as_ x.as_.length a.nas) rfl
  refine wpList_wanted (by kernel_rfl) fun Kt hKt => ?_
  go_simp
  refine hKt _ _ ?_
  clear hKt Kt
  try simp only [List.getElem_toArray, List.getElem_cons_zero, List.getElem_cons_succ, Act.put, List.setIfInBounds_toArray, List.set_cons_zero, List.set_cons_succ]
  refine wpList_wanted (by kernel_rfl) fun Kt hKt => ?_
  go_simp
  refine hKt _ _ ?_
  clear hKt Kt
  try simp only [List.getElem_toArray, List.getElem_cons_zero, List.getElem_cons_succ, Act.put, List.setIfInBounds_toArray, List.set_cons_zero, List.set_cons_succ]
  clear hc
  have hc := (unhide HY).cell (j := 10) (v := .slice c.as_ y.as_.length c.nas) rfl
  refine wpList_wanted (by kernel_rfl) fun Kt hKt => ?_
  go_simp
  refine hKt _ _ ?_
  clear hKt Kt
  try simp only [List.getElem_toArray, List.getElem_cons_zero, List.getElem_cons_succ, Act.put, List.setIfInBounds_toArray, List.set_cons_zero, List.set_cons_succ]
  refine wpList_wanted (by kernel_rfl) fun Kt hKt => ?_
  go_simp
  refine hKt _ _ ?_
  clear hKt Kt
  try simp only [List.getElem_toArray, List.getElem_cons_zero, List.getElem_cons_succ, Act.put, List.setIfInBounds_toArray, List.set_cons_zero, List.set_cons_succ]
  clear hc
  refine wpList_wanted (by kernel_rfl) fun Kt hKt => ?_
  go_simp
  refine (eqInts_any W3 a.as_ x.as_.length a.nas x.as_ rfl ((unhide F_as_).1.keep (unhide HB)) c.as_ y.as_.length c.nas y.as_ rfl ((unhide F_as_).2.keep (unhide HB))).mono ?_; rintro x W4 ⟨rfl, hG⟩
  dsimp only
  rw [hb7]
  refine hKt _ _ ?_
  clear hKt Kt
  have HX := hide ((unhide HX).keep hG); have HY := hide ((unhide HY).keep hG); have HB := hide (thenB (unhide HB) hG)
  clear hG
  try simp only [List.getElem_toArray, List.getElem_cons_zero, List.getElem_cons_succ, Act.put, List.setIfInBounds_toArray, List.set_cons_zero, List.set_cons_succ]
  clear hb7
  cases b7
  case false =>
    go_wp2_with fail
    go_ret
    exact ⟨by rw [unhide HR]; rfl, unhide HB⟩
  refine wpList_plain rfl fun Kt hKt => ?_
  go_simp
  refine hKt _ _ ?_
  clear hKt Kt
  try simp only [List.getElem_toArray, List.getElem_cons_zero, List.getElem_cons_succ, Act.put, List.setIfInBounds_toArray, List.set_cons_zero, List.set_cons_succ]
  refine wpList_plain rfl fun Kt hKt => ?_
  go_simp
  refine hKt _ _ ?_
  clear hKt Kt
  try simp only [List.getElem_toArray, List.getElem_cons_zero, List.getElem_cons_succ, Act.put, List.setIfInBounds_toArray, List.set_cons_zero, List.set_cons_succ]
  have hc := (unhide HX).cell (j := 11) (v := .slice a.hc x.hc.length a.nhc) rfl
  refine wpList_wanted (by kernel_rfl) fun Kt hKt => ?_
  go_simp
  refine hKt _ _ ?_
  clear hKt Kt
  try simp only [List.getElem_toArray, List.getElem_cons_zero, List.getElem_cons_succ, Act.put, List.setIfInBounds_toArray, List.set_cons_zero, List.set_cons_succ]
  refine wpList_wanted (by kernel_rfl) fun Kt hKt => ?_
  go_simp
  refine hKt _ _ ?_
  clear hKt Kt
  try simp only [List.getElem_toArray, List.getElem_cons_zero, List.getElem_cons_succ, Act.put, List.setIfInBounds_toArray, List.set_cons_zero, List.set_cons_succ]
  clear hc
  have hc := (unhide HY).cell (j := 11) (v := .slice c.hc y.hc.length c.nhc) rfl
  refine wpList_wanted (by kernel_rfl) fun Kt hKt => ?_
  go_simp
  refine hKt _ _ ?_
  clear hKt Kt
  try simp only [List.getElem_toArray, List.getElem_cons_zero, List.getElem_cons_succ, Act.put, List.setIfInBounds_toArray, List.set_cons_zero, List.set_cons_succ]
  refine wpList_wanted (by kernel_rfl) fun Kt hKt => ?_
  go_simp
  refine hKt _ _ ?_
  clear hKt Kt
  try simp only [List.getElem_toArray, List.getElem_cons_zero, List.getElem_cons_succ, Act.put, List.setIfInBounds_toArray, List.set_cons_zero, List.set_cons_succ]
  clear hc
  refine wpList_wanted (by kernel_rfl) fun Kt hKt => ?_
  go_simp
  refine (eqCards_any W4 a.hc x.hc.length a.nhc x.hc rfl ((unhide F_hc).1.keep (unhide HB)) c.hc y.hc.length c.nhc y.hc rfl ((unhide F_hc).2.keep (unhide HB))).mono ?_; rintro x W5 ⟨rfl, hG⟩
  dsimp only
  rw [hb8]
  refine hKt _ _ ?_
  clear hKt Kt
  have HX := hide ((unhide HX).keep hG); have HY := hide ((unhide HY).keep hG); have HB := hide (thenB (unhide HB) hG)
  clear hG
  try simp only [List.getElem_toArray, List.getElem_cons_zero, List.getElem_cons_succ, Act.put, List.setIfInBounds_toArray, List.set_cons_zero, List.set_cons_succ]
  clear hb8
  cases b8
  case false =>
    go_wp2_with fail
    go_ret
    exact ⟨by rw [unhide HR]; rfl, unhide HB⟩
  refine wpList_plain rfl fun Kt hKt => ?_
  go_simp
  refine hKt _ _ ?_
  clear hKt Kt
  try simp only [List.getElem_toArray, List.getElem_cons_zero, List.getElem_cons_succ, Act.put, List.setIfInBounds_toArray, List.set_cons_zero, List.set_cons_succ]
  refine wpList_plain rfl fun Kt hKt => ?_
  go_simp
  refine hKt _ _ ?_
  clear hKt Kt
  try simp only [List.getElem_toArray, List.getElem_cons_zero, List.getElem_cons_succ, Act.put, List.setIfInBounds_toArray, List.set_cons_zero, List.set_cons_succ]
  have hc := (unhide HX).cell (j := 12) (v := .slice a.ac x.ac.length a.nac) rfl
  refine wpList_wanted (by kernel_rfl) fun Kt hKt => ?_
  go_simp
  refine hKt _ _ ?_
  clear hKt Kt
  try simp only [List.getElem_toArray, List.getElem_cons_zero, List.getElem_cons_succ, Act.put, List.setIfInBounds_toArray, List.set_cons_zero, List.set_cons_succ]
  refine wpList_wanted (by kernel_rfl) fun Kt hKt => ?_
  go_simp
  refine hKt _ _ ?_
  clear hKt Kt
  try simp only [List.getElem_toArray, List.getElem_cons_zero, List.getElem_cons_succ, Act.put, List.setIfInBounds_toArray, List.set_cons_zero, List.set_cons_succ]
  clear hc
  have hc := (unhide HY).cell (j := 12) (v := .slice c.ac y.ac.length c.nac) rfl
  refine wpList_wanted (by kernel_rfl) fun Kt hKt => ?_
  go_simp
  refine hKt _ _ ?_
  clear hKt Kt
  try simp only [List.getElem_toArray, List.getElem_cons_zero, List.getElem_cons_succ, Act.put, List.setIfInBounds_toArray, List.set_cons_zero, List.set_cons_succ]
  refine wpList_wanted (by kernel_rfl) fun Kt hKt => ?_
  go_simp
  refine hKt _ _ ?_
  clear hKt Kt
  try simp only [List.getElem_toArray, List.getElem_cons_zero, List.getElem_cons_succ, Act.put, List.setIfInBounds_toArray, List.set_cons_zero, List.set_cons_succ]
  clear hc
  refine wpList_wanted (by kernel_rfl) fun Kt hKt => ?_
  go_simp
  refine (eqCards_any W5 a.ac x.ac.length a.nac x.ac rfl ((unhide F_ac).1.keep (unhide HB)) c.ac y.ac.length c.nac y.ac rfl ((unhide F_ac).2.keep (unhide HB))).mono ?_; rintro x W6 ⟨rfl, hG⟩
  dsimp only
  rw [hb9]
  refine hKt _ _ ?_
  clear hKt Kt
  have HX := hide ((unhide HX).keep hG); have HY := hide ((unhide HY).keep hG); have HB := hide (thenB (unhide HB) hG)
  clear hG
  try simp only [List.getElem_toArray, List.getElem_cons_zero, List.getElem_cons_succ, Act.put, List.setIfInBounds_toArray, List.set_cons_zero, List.set_cons_succ]
  clear hb9
  refine wpList_plain rfl fun Kt hKt => ?_
  go_simp
  refine hKt _ _ ?_
  clear hKt Kt
  try simp only [List.getElem_toArray, List.getElem_cons_zero, List.getElem_cons_succ, Act.put, List.setIfInBounds_toArray, List.set_cons_zero, List.set_cons_succ]
  go_wp2_with fail
  go_ret
  exact ⟨by rw [unhide HR]; rfl, unhide HB⟩
set_option maxRecDepth 100000 in
set_option maxHeartbeats 2000000 in
theorem same_any (x y : Fc) (a c : Ad) (w : World) (f1 : FAt w x a) (f2 : FAt w y c) :
    Calls Tryz.prog 26 #[.agg (fC x a).toArray, .agg (fC y c).toArray] w fun r w' => r = .returned (.bool (fcEq x y)) ∧ Below w.heap.size w w' := by
  obtain ⟨R, hR⟩ : ∃ R, R = fcEq x y := ⟨_, rfl⟩
  obtain ⟨b0, hb0⟩ : ∃ b, (x.kind == y.kind) = b := ⟨_, rfl⟩
  obtain ⟨b1, hb1⟩ : ∃ b, (x.day == y.day) = b := ⟨_, rfl⟩
  obtain ⟨b2, hb2⟩ : ∃ b, (x.known == y.known) = b := ⟨_, rfl⟩
  obtain ⟨b3, hb3⟩ : ∃ b, (enEq x.e y.e) = b := ⟨_, rfl⟩
  obtain ⟨b4, hb4⟩ : ∃ b, (fxEq x y) = b := ⟨_, rfl⟩
  obtain ⟨b5, hb5⟩ : ∃ b, (shEq x.sh y.sh) = b := ⟨_, rfl⟩
  obtain ⟨b6, hb6⟩ : ∃ b, (ruEq x.r y.r) = b := ⟨_, rfl⟩
  obtain ⟨b7, hb7⟩ : ∃ b, (apEq x y) = b := ⟨_, rfl⟩
  obtain ⟨b8, hb8⟩ : ∃ b, (mvEq x y) = b := ⟨_, rfl⟩
  obtain ⟨b9, hb9⟩ : ∃ b, (ltEq x y) = b := ⟨_, rfl⟩
  obtain ⟨b10, hb10⟩ : ∃ b, (decide (x.void = y.void)) = b := ⟨_, rfl⟩
  have HR : Hid (R = (b0 && b1 && b2 && b3 && b4 && b5 && b6 && b7 && b8 && b9 && b10)) := by
    have : R = (b0 && b1 && b2 && b3 && b4 && b5 && b6 && b7 && b8 && b9 && b10) := by
      rw [hR, ← hb0, ← hb1, ← hb2, ← hb3, ← hb4, ← hb5, ← hb6, ← hb7, ← hb8, ← hb9, ← hb10]; rfl
    exact this
  rw [← hR]
  clear hR
  have FX := hide f1; have FY := hide f2
  clear f1 f2
  obtain ⟨cx, hcx⟩ : ∃ zz, zz = fC x a := ⟨_, rfl⟩
  obtain ⟨cy, hcy⟩ : ∃ zz, zz = fC y c := ⟨_, rfl⟩
  rw [← hcx, ← hcy]
  have HCX := hide hcx; have HCY := hide hcy
  clear hcx hcy
  go_enter Tryz.func26, Tryz.ntmps26
  go_upto_region 1 with fail
  generalize hX1 : w.alloc _ = W1
  have hB1 : Below w.heap.size w W1 := hX1 ▸ (Below.refl _ _).alloc (Nat.le_refl _) _
  have hv1 := boxedV w W1 cx 45 (by rw [← hX1]; rfl)
  have hz1 : W1.heap.size = w.heap.size + 1 := by rw [← hX1]; show (w.heap.push _).size = _; rw [Array.size_push]
  generalize hX2 : W1.alloc _ = W2
  have hB2 : Below W1.heap.size W1 W2 := hX2 ▸ (Below.refl _ _).alloc (Nat.le_refl _) _
  have HY := hide (boxedV W1 W2 cy 45 (by rw [← hX2]; rfl))
  rw [hz1] at HY
  have HX := hide (hv1.keep hB2)
  have HB := hide (thenB hB1 hB2)
  have hsz2 : W2.heap.size = w.heap.size + 2 := by rw [← hX2]; show (W1.heap.push _).size = _; rw [Array.size_push, hz1]
  have HSZ := hide hsz2
  clear hX1 hB1 hv1 hz1 hX2 hB2 hsz2
  rw [unhide HCX] at HX
  rw [unhide HCY] at HY
  clear HCX HCY
  refine wp_region_lit ?_
  have hc := (unhide HX).cell (j := 0) (v := .int .i64 x.kind) rfl
  have hd := (unhide HY).cell (j := 0) (v := .int .i64 y.kind) rfl
  cases b0
  case false =>
    go_wp2_with fail
    go_ret
    exact ⟨by rw [unhide HR]; rfl, unhide HB⟩
  refine wpList_plain rfl fun Kt hKt => ?_
  go_simp
  refine hKt _ _ ?_
  clear hKt Kt
  try simp only [List.getElem_toArray, List.getElem_cons_zero, List.getElem_cons_succ, Act.put, List.setIfInBounds_toArray, List.set_cons_zero, List.set_cons_succ]
  refine wpList_plain rfl fun Kt hKt => ?_
  go_simp
  refine hKt _ _ ?_
  clear hKt Kt
  try simp only [List.getElem_toArray, List.getElem_cons_zero, List.getElem_cons_succ, Act.put, List.setIfInBounds_toArray, List.set_cons_zero, List.set_cons_succ]
  refine wpList_plain rfl fun Kt hKt => ?_
  go_simp
  refine hKt _ _ ?_
  clear hKt Kt
  try simp only [List.getElem_toArray, List.getElem_cons_zero, List.getElem_cons_succ, Act.put, List.setIfInBounds_toArray, List.set_cons_zero, List.set_cons_succ]
  refine wpList_plain rfl fun Kt hKt => ?_
  go_simp
  refine hKt _ _ ?_
  clear hKt Kt
  try simp only [List.getElem_toArray, List.getElem_cons_zero, List.getElem_cons_succ, Act.put, List.setIfInBounds_toArray, List.set_cons_zero, List.set_cons_succ]
  refine wpList_plain rfl fun Kt hKt => ?_
  go_simp
  refine hKt _ _ ?_
  clear hKt Kt
  try simp only [List.getElem_toArray, List.getElem_cons_zero, List.getElem_cons_succ, Act.put, List.setIfInBounds_toArray, List.set_cons_zero, List.set_cons_succ]
  clear hc hd
  refine wpList_plain rfl fun Kt hKt => ?_
  go_simp
  refine hKt _ _ ?_
  clear hKt Kt
  try simp only [List.getElem_toArray, List.getElem_cons_zero, List.getElem_cons_succ, Act.put, List.setIfInBounds_toArray, List.set_cons_zero, List.set_cons_succ]
  have hc := (unhide HX).cell (j := 1) (v := .int .i64 x.day) rfl
  have hd := (unhide HY).cell (j := 1) (v := .int .i64 y.day) rfl
  cases b1
  case false =>
    go_wp2_with fail
    go_ret
    exact ⟨by rw [unhide HR]; rfl, unhide HB⟩
  refine wpList_wanted (by kernel_rfl) fun Kt hKt => ?_
  go_simp
  refine hKt _ _ ?_
  clear hKt Kt
  try simp only [List.getElem_toArray, List.getElem_cons_zero, List.getElem_cons_succ, Act.put, List.setIfInBounds_toArray, List.set_cons_zero, List.set_cons_succ]
  refine wpList_wanted (by kernel_rfl) fun Kt hKt => ?_
  go_simp
  refine hKt _ _ ?_
  clear hKt Kt
  try simp only [List.getElem_toArray, List.getElem_cons_zero, List.getElem_cons_succ, Act.put, List.setIfInBounds_toArray, List.set_cons_zero, List.set_cons_succ]
  refine wpList_wanted (by kernel_rfl) fun Kt hKt => ?_
  go_simp
  refine hKt _ _ ?_
  clear hKt Kt
  try simp only [List.getElem_toArray, List.getElem_cons_zero, List.getElem_cons_succ, Act.put, List.setIfInBounds_toArray, List.set_cons_zero, List.set_cons_succ]
  refine wpList_wanted (by kernel_rfl) fun Kt hKt => ?_
  go_simp
  refine hKt _ _ ?_
  clear hKt Kt
  try simp only [List.getElem_toArray, List.getElem_cons_zero, List.getElem_cons_succ, Act.put, List.setIfInBounds_toArray, List.set_cons_zero, List.set_cons_succ]
  refine wpList_wanted (by kernel_rfl) fun Kt hKt => ?_
  go_simp
  refine hKt _ _ ?_
  clear hKt Kt
  try simp only [List.getElem_toArray, List.getElem_cons_zero, List.getElem_cons_succ, Act.put, List.setIfInBounds_toArray, List.set_cons_zero, List.set_cons_succ]
  clear hc hd
  refine wpList_plain rfl fun Kt hKt => ?_
  go_simp
  refine hKt _ _ ?_
  clear hKt Kt
  try simp only [List.getElem_toArray, List.getElem_cons_zero, List.getElem_cons_succ, Act.put, List.setIfInBounds_toArray, List.set_cons_zero, List.set_cons_succ]
  refine wpList_plain rfl fun Kt hKt => ?_
  go_simp
  refine hKt _ _ ?_
  clear hKt Kt
  try simp only [List.getElem_toArray, List.getElem_cons_zero, List.getElem_cons_succ, Act.put, List.setIfInBounds_toArray, List.set_cons_zero, List.set_cons_succ]
  have hc := (unhide HX).cell (j := 2) (v := .int .i64 x.known) rfl
  have hd := (unhide HY).cell (j := 2) (v := .int .i64 y.known) rfl
  cases b2
  case false =>
    go_wp2_with fail
    go_ret
    exact ⟨by rw [unhide HR]; rfl, unhide HB⟩
  refine wpList_wanted (by kernel_rfl) fun Kt hKt => ?_
  go_simp
  refine hKt _ _ ?_
  clear hKt Kt
  try simp only [List.getElem_toArray, List.getElem_cons_zero, List.getElem_cons_succ, Act.put, List.setIfInBounds_toArray, List.set_cons_zero, List.set_cons_succ]
  refine wpList_wanted (by kernel_rfl) fun Kt hKt => ?_
  go_simp
  refine hKt _ _ ?_
  clear hKt Kt
  try simp only [List.getElem_toArray, List.getElem_cons_zero, List.getElem_cons_succ, Act.put, List.setIfInBounds_toArray, List.set_cons_zero, List.set_cons_succ]
  refine wpList_wanted (by kernel_rfl) fun Kt hKt => ?_
  go_simp
  refine hKt _ _ ?_
  clear hKt Kt
  try simp only [List.getElem_toArray, List.getElem_cons_zero, List.getElem_cons_succ, Act.put, List.setIfInBounds_toArray, List.set_cons_zero, List.set_cons_succ]
  refine wpList_wanted (by kernel_rfl) fun Kt hKt => ?_
  go_simp
  refine hKt _ _ ?_
  clear hKt Kt
  try simp only [List.getElem_toArray, List.getElem_cons_zero, List.getElem_cons_succ, Act.put, List.setIfInBounds_toArray, List.set_cons_zero, List.set_cons_succ]
  refine wpList_wanted (by kernel_rfl) fun Kt hKt => ?_
  go_simp
  refine hKt _ _ ?_
  clear hKt Kt
  try simp only [List.getElem_toArray, List.getElem_cons_zero, List.getElem_cons_succ, Act.put, List.setIfInBounds_toArray, List.set_cons_zero, List.set_cons_succ]
  clear hc hd
  refine wpList_plain rfl fun Kt hKt => ?_
  go_simp
  refine hKt _ _ ?_
  clear hKt Kt
  try simp only [List.getElem_toArray, List.getElem_cons_zero, List.getElem_cons_succ, Act.put, List.setIfInBounds_toArray, List.set_cons_zero, List.set_cons_succ]
  refine wpList_plain rfl fun Kt hKt => ?_
  go_simp
  refine hKt _ _ ?_
  clear hKt Kt
  try simp only [List.getElem_toArray, List.getElem_cons_zero, List.getElem_cons_succ, Act.put, List.setIfInBounds_toArray, List.set_cons_zero, List.set_cons_succ]
  refine wpList_wanted (by kernel_rfl) fun Kt hKt => ?_
  go_simp
  refine hKt _ _ ?_
  clear hKt Kt
  try simp only [List.getElem_toArray, List.getElem_cons_zero, List.getElem_cons_succ, Act.put, List.setIfInBounds_toArray, List.set_cons_zero, List.set_cons_succ]
  refine wpList_vgload (by kernel_rfl) 24 (.tmp 25) rfl w.heap.size 3 rfl _ Tryz.underlying24 rfl (eC x.e a.cl a.ncl) infoEn (unhide HX).fe ?_
  try simp only [List.getElem_toArray, List.getElem_cons_zero, List.getElem_cons_succ, Act.put, List.setIfInBounds_toArray, List.set_cons_zero, List.set_cons_succ]
  refine wpList_wanted (by kernel_rfl) fun Kt hKt => ?_
  go_simp
  refine hKt _ _ ?_
  clear hKt Kt
  try simp only [List.getElem_toArray, List.getElem_cons_zero, List.getElem_cons_succ, Act.put, List.setIfInBounds_toArray, List.set_cons_zero, List.set_cons_succ]
  refine wpList_vgload (by kernel_rfl) 24 (.tmp 27) rfl (w.heap.size + 1) 3 rfl _ Tryz.underlying24 rfl (eC y.e c.cl c.ncl) infoEn (unhide HY).fe ?_
  try simp only [List.getElem_toArray, List.getElem_cons_zero, List.getElem_cons_succ, Act.put, List.setIfInBounds_toArray, List.set_cons_zero, List.set_cons_succ]
  refine wpList_wanted (by kernel_rfl) fun Kt hKt => ?_
  go_simp
  refine (sameEnt_any x.e y.e a.cl c.cl a.ncl c.ncl W2 ((unhide FX).cl.keep (unhide HB)) ((unhide FY).cl.keep (unhide HB))).mono ?_; rintro x W3 ⟨rfl, hG⟩
  dsimp only
  rw [hb3]
  refine hKt _ _ ?_
  clear hKt Kt
  have HX := hide ((unhide HX).keep hG); have HY := hide ((unhide HY).keep hG); have HB := hide (thenB (unhide HB) hG)
  clear hG
  try simp only [List.getElem_toArray, List.getElem_cons_zero, List.getElem_cons_succ, Act.put, List.setIfInBounds_toArray, List.set_cons_zero, List.set_cons_succ]
  clear hb3
  cases b3
  case false =>
    go_wp2_with fail
    go_ret
    exact ⟨by rw [unhide HR]; rfl, unhide HB⟩
  refine wpList_plain rfl fun Kt hKt => ?_
  go_simp
  refine hKt _ _ ?_
  clear hKt Kt
  try simp only [List.getElem_toArray, List.getElem_cons_zero, List.getElem_cons_succ, Act.put, List.setIfInBounds_toArray, List.set_cons_zero, List.set_cons_succ]
  refine wpList_plain rfl fun Kt hKt => ?_
  go_simp
  refine hKt _ _ ?_
  clear hKt Kt
  try simp only [List.getElem_toArray, List.getElem_cons_zero, List.getElem_cons_succ, Act.put, List.setIfInBounds_toArray, List.set_cons_zero, List.set_cons_succ]
  refine wpList_wanted (by kernel_rfl) fun Kt hKt => ?_
  go_simp
  refine hKt _ _ ?_
  clear hKt Kt
  try simp only [List.getElem_toArray, List.getElem_cons_zero, List.getElem_cons_succ, Act.put, List.setIfInBounds_toArray, List.set_cons_zero, List.set_cons_succ]
  refine wpList_vgload (by kernel_rfl) 28 (.tmp 32) rfl w.heap.size 7 rfl _ Tryz.underlying28 rfl (xC x.xg x.venue) infoFx (unhide HX).fx ?_
  try simp only [List.getElem_toArray, List.getElem_cons_zero, List.getElem_cons_succ, Act.put, List.setIfInBounds_toArray, List.set_cons_zero, List.set_cons_succ]
  refine wpList_wanted (by kernel_rfl) fun Kt hKt => ?_
  go_simp
  refine hKt _ _ ?_
  clear hKt Kt
  try simp only [List.getElem_toArray, List.getElem_cons_zero, List.getElem_cons_succ, Act.put, List.setIfInBounds_toArray, List.set_cons_zero, List.set_cons_succ]
  refine wpList_vgload (by kernel_rfl) 28 (.tmp 34) rfl (w.heap.size + 1) 7 rfl _ Tryz.underlying28 rfl (xC y.xg y.venue) infoFx (unhide HY).fx ?_
  try simp only [List.getElem_toArray, List.getElem_cons_zero, List.getElem_cons_succ, Act.put, List.setIfInBounds_toArray, List.set_cons_zero, List.set_cons_succ]
  refine wpList_cmpW (by kernel_rfl) 28 28 (.tmp 33) (.tmp 35) rfl _ _ b4 rfl rfl (fx_guard _ _ x y _) (by rw [← hb4]; exact fx_cmp x y _) ?_
  try simp only [List.getElem_toArray, List.getElem_cons_zero, List.getElem_cons_succ, Act.put, List.setIfInBounds_toArray, List.set_cons_zero, List.set_cons_succ]
  clear hb4
  cases b4
  case false =>
    go_wp2_with fail
    go_ret
    exact ⟨by rw [unhide HR]; rfl, unhide HB⟩
  refine wpList_plain rfl fun Kt hKt => ?_
  go_simp
  refine hKt _ _ ?_
  clear hKt Kt
  try simp only [List.getElem_toArray, List.getElem_cons_zero, List.getElem_cons_succ, Act.put, List.setIfInBounds_toArray, List.set_cons_zero, List.set_cons_succ]
  refine wpList_plain rfl fun Kt hKt => ?_
  go_simp
  refine hKt _ _ ?_
  clear hKt Kt
  try simp only [List.getElem_toArray, List.getElem_cons_zero, List.getElem_cons_succ, Act.put, List.setIfInBounds_toArray, List.set_cons_zero, List.set_cons_succ]
  refine wpList_wanted (by kernel_rfl) fun Kt hKt => ?_
  go_simp
  refine hKt _ _ ?_
  clear hKt Kt
  try simp only [List.getElem_toArray, List.getElem_cons_zero, List.getElem_cons_succ, Act.put, List.setIfInBounds_toArray, List.set_cons_zero, List.set_cons_succ]
  refine wpList_vgload (by kernel_rfl) 31 (.tmp 39) rfl w.heap.size 12 rfl _ Tryz.underlying31 rfl (sC x.sh a) infoSh (unhide HX).fs ?_
  try simp only [List.getElem_toArray, List.getElem_cons_zero, List.getElem_cons_succ, Act.put, List.setIfInBounds_toArray, List.set_cons_zero, List.set_cons_succ]
  refine wpList_wanted (by kernel_rfl) fun Kt hKt => ?_
  go_simp
  refine hKt _ _ ?_
  clear hKt Kt
  try simp only [List.getElem_toArray, List.getElem_cons_zero, List.getElem_cons_succ, Act.put, List.setIfInBounds_toArray, List.set_cons_zero, List.set_cons_succ]
  refine wpList_vgload (by kernel_rfl) 31 (.tmp 41) rfl (w.heap.size + 1) 12 rfl _ Tryz.underlying31 rfl (sC y.sh c) infoSh (unhide HY).fs ?_
  try simp only [List.getElem_toArray, List.getElem_cons_zero, List.getElem_cons_succ, Act.put, List.setIfInBounds_toArray, List.set_cons_zero, List.set_cons_succ]
  refine wpList_wanted (by kernel_rfl) fun Kt hKt => ?_
  go_simp
  refine (sameSh_any x.sh y.sh a c W3 ⟨(unhide FX).hs.keep (unhide HB), (unhide FY).hs.keep (unhide HB)⟩ ⟨(unhide FX).as_.keep (unhide HB), (unhide FY).as_.keep (unhide HB)⟩ ⟨(unhide FX).hc.keep (unhide HB), (unhide FY).hc.keep (unhide HB)⟩ ⟨(unhide FX).ac.keep (unhide HB), (unhide FY).ac.keep (unhide HB)⟩).mono ?_; rintro x W4 ⟨rfl, hG⟩
  dsimp only
  rw [hb5]
  refine hKt _ _ ?_
  clear hKt Kt
  have HX := hide ((unhide HX).keep hG); have HY := hide ((unhide HY).keep hG); have HB := hide (thenB (unhide HB) hG)
  clear hG
  try simp only [List.getElem_toArray, List.getElem_cons_zero, List.getElem_cons_succ, Act.put, List.setIfInBounds_toArray, List.set_cons_zero, List.set_cons_succ]
  clear hb5
  cases b5
  case false =>
    go_wp2_with fail
    go_ret
    exact ⟨by rw [unhide HR]; rfl, unhide HB⟩
  refine wpList_plain rfl fun Kt hKt => ?_
  go_simp
  refine hKt _ _ ?_
  clear hKt Kt
  try simp only [List.getElem_toArray, List.getElem_cons_zero, List.getElem_cons_succ, Act.put, List.setIfInBounds_toArray, List.set_cons_zero, List.set_cons_succ]
  refine wpList_plain rfl fun Kt hKt => ?_
  go_simp
  refine hKt _ _ ?_
  clear hKt Kt
  try simp only [List.getElem_toArray, List.getElem_cons_zero, List.getElem_cons_succ, Act.put, List.setIfInBounds_toArray, List.set_cons_zero, List.set_cons_succ]
  refine wpList_wanted (by kernel_rfl) fun Kt hKt => ?_
  go_simp
  refine hKt _ _ ?_
  clear hKt Kt
  try simp only [List.getElem_toArray, List.getElem_cons_zero, List.getElem_cons_succ, Act.put, List.setIfInBounds_toArray, List.set_cons_zero, List.set_cons_succ]
  refine wpList_vgload (by kernel_rfl) 35 (.tmp 46) rfl w.heap.size 25 rfl _ Tryz.underlying35 rfl (rC x.r) infoRu (unhide HX).fr ?_
  try simp only [List.getElem_toArray, List.getElem_cons_zero, List.getElem_cons_succ, Act.put, List.setIfInBounds_toArray, List.set_cons_zero, List.set_cons_succ]
  refine wpList_wanted (by kernel_rfl) fun Kt hKt => ?_
  go_simp
  refine hKt _ _ ?_
  clear hKt Kt
  try simp only [List.getElem_toArray, List.getElem_cons_zero, List.getElem_cons_succ, Act.put, List.setIfInBounds_toArray, List.set_cons_zero, List.set_cons_succ]
  refine wpList_vgload (by kernel_rfl) 35 (.tmp 48) rfl (w.heap.size + 1) 25 rfl _ Tryz.underlying35 rfl (rC y.r) infoRu (unhide HY).fr ?_
  try simp only [List.getElem_toArray, List.getElem_cons_zero, List.getElem_cons_succ, Act.put, List.setIfInBounds_toArray, List.set_cons_zero, List.set_cons_succ]
  refine wpList_cmpW (by kernel_rfl) 35 35 (.tmp 47) (.tmp 49) rfl _ _ b6 rfl rfl (ru_guard _ _ x.r y.r _) (by rw [← hb6]; exact ru_cmp x.r y.r _) ?_
  try simp only [List.getElem_toArray, List.getElem_cons_zero, List.getElem_cons_succ, Act.put, List.setIfInBounds_toArray, List.set_cons_zero, List.set_cons_succ]
  clear hb6
  cases b6
  case false =>
    go_wp2_with fail
    go_ret
    exact ⟨by rw [unhide HR]; rfl, unhide HB⟩
  refine wpList_plain rfl fun Kt hKt => ?_
  go_simp
  refine hKt _ _ ?_
  clear hKt Kt
  try simp only [List.getElem_toArray, List.getElem_cons_zero, List.getElem_cons_succ, Act.put, List.setIfInBounds_toArray, List.set_cons_zero, List.set_cons_succ]
  refine wpList_plain rfl fun Kt hKt => ?_
  go_simp
  refine hKt _ _ ?_
  clear hKt Kt
  try simp only [List.getElem_toArray, List.getElem_cons_zero, List.getElem_cons_succ, Act.put, List.setIfInBounds_toArray, List.set_cons_zero, List.set_cons_succ]
  refine wpList_wanted (by kernel_rfl) fun Kt hKt => ?_
  go_simp
  refine hKt _ _ ?_
  clear hKt Kt
  try simp only [List.getElem_toArray, List.getElem_cons_zero, List.getElem_cons_succ, Act.put, List.setIfInBounds_toArray, List.set_cons_zero, List.set_cons_succ]
  refine wpList_vgload (by kernel_rfl) 37 (.tmp 53) rfl w.heap.size 42 rfl _ Tryz.underlying37 rfl (pC x) infoAp (unhide HX).fp ?_
  try simp only [List.getElem_toArray, List.getElem_cons_zero, List.getElem_cons_succ, Act.put, List.setIfInBounds_toArray, List.set_cons_zero, List.set_cons_succ]
  refine wpList_wanted (by kernel_rfl) fun Kt hKt => ?_
  go_simp
  refine hKt _ _ ?_
  clear hKt Kt
  try simp only [List.getElem_toArray, List.getElem_cons_zero, List.getElem_cons_succ, Act.put, List.setIfInBounds_toArray, List.set_cons_zero, List.set_cons_succ]
  refine wpList_vgload (by kernel_rfl) 37 (.tmp 55) rfl (w.heap.size + 1) 42 rfl _ Tryz.underlying37 rfl (pC y) infoAp (unhide HY).fp ?_
  try simp only [List.getElem_toArray, List.getElem_cons_zero, List.getElem_cons_succ, Act.put, List.setIfInBounds_toArray, List.set_cons_zero, List.set_cons_succ]
  refine wpList_cmpW (by kernel_rfl) 37 37 (.tmp 54) (.tmp 56) rfl _ _ b7 rfl rfl (ap_guard _ _ x y _) (by rw [← hb7]; exact ap_cmp x y _) ?_
  try simp only [List.getElem_toArray, List.getElem_cons_zero, List.getElem_cons_succ, Act.put, List.setIfInBounds_toArray, List.set_cons_zero, List.set_cons_succ]
  clear hb7
  cases b7
  case false =>
    go_wp2_with fail
    go_ret
    exact ⟨by rw [unhide HR]; rfl, unhide HB⟩
  refine wpList_plain rfl fun Kt hKt => ?_
  go_simp
  refine hKt _ _ ?_
  clear hKt Kt
  try simp only [List.getElem_toArray, List.getElem_cons_zero, List.getElem_cons_succ, Act.put, List.setIfInBounds_toArray, List.set_cons_zero, List.set_cons_succ]
  refine wpList_plain rfl fun Kt hKt => ?_
  go_simp
  refine hKt _ _ ?_
  clear hKt Kt
  try simp only [List.getElem_toArray, List.getElem_cons_zero, List.getElem_cons_succ, Act.put, List.setIfInBounds_toArray, List.set_cons_zero, List.set_cons_succ]
  refine wpList_wanted (by kernel_rfl) fun Kt hKt => ?_
  go_simp
  refine hKt _ _ ?_
  clear hKt Kt
  try simp only [List.getElem_toArray, List.getElem_cons_zero, List.getElem_cons_succ, Act.put, List.setIfInBounds_toArray, List.set_cons_zero, List.set_cons_succ]
  refine wpList_vgload (by kernel_rfl) 39 (.tmp 60) rfl w.heap.size 45 rfl _ Tryz.underlying39 rfl (mC x) infoMv (unhide HX).fm ?_
  try simp only [List.getElem_toArray, List.getElem_cons_zero, List.getElem_cons_succ, Act.put, List.setIfInBounds_toArray, List.set_cons_zero, List.set_cons_succ]
  refine wpList_wanted (by kernel_rfl) fun Kt hKt => ?_
  go_simp
  refine hKt _ _ ?_
  clear hKt Kt
  try simp only [List.getElem_toArray, List.getElem_cons_zero, List.getElem_cons_succ, Act.put, List.setIfInBounds_toArray, List.set_cons_zero, List.set_cons_succ]
  refine wpList_vgload (by kernel_rfl) 39 (.tmp 62) rfl (w.heap.size + 1) 45 rfl _ Tryz.underlying39 rfl (mC y) infoMv (unhide HY).fm ?_
  try simp only [List.getElem_toArray, List.getElem_cons_zero, List.getElem_cons_succ, Act.put, List.setIfInBounds_toArray, List.set_cons_zero, List.set_cons_succ]
  refine wpList_cmpW (by kernel_rfl) 39 39 (.tmp 61) (.tmp 63) rfl _ _ b8 rfl rfl (mv_guard _ _ x y _) (by rw [← hb8]; exact mv_cmp x y _) ?_
  try simp only [List.getElem_toArray, List.getElem_cons_zero, List.getElem_cons_succ, Act.put, List.setIfInBounds_toArray, List.set_cons_zero, List.set_cons_succ]
  clear hb8
  cases b8
  case false =>
    go_wp2_with fail
    go_ret
    exact ⟨by rw [unhide HR]; rfl, unhide HB⟩
  refine wpList_plain rfl fun Kt hKt => ?_
  go_simp
  refine hKt _ _ ?_
  clear hKt Kt
  try simp only [List.getElem_toArray, List.getElem_cons_zero, List.getElem_cons_succ, Act.put, List.setIfInBounds_toArray, List.set_cons_zero, List.set_cons_succ]
  refine wpList_plain rfl fun Kt hKt => ?_
  go_simp
  refine hKt _ _ ?_
  clear hKt Kt
  try simp only [List.getElem_toArray, List.getElem_cons_zero, List.getElem_cons_succ, Act.put, List.setIfInBounds_toArray, List.set_cons_zero, List.set_cons_succ]
  refine wpList_wanted (by kernel_rfl) fun Kt hKt => ?_
  go_simp
  refine hKt _ _ ?_
  clear hKt Kt
  try simp only [List.getElem_toArray, List.getElem_cons_zero, List.getElem_cons_succ, Act.put, List.setIfInBounds_toArray, List.set_cons_zero, List.set_cons_succ]
  refine wpList_vgload (by kernel_rfl) 41 (.tmp 67) rfl w.heap.size 47 rfl _ Tryz.underlying41 rfl (lC x.ls x.lc x.order a.od a.nod) infoLt (unhide HX).fl ?_
  try simp only [List.getElem_toArray, List.getElem_cons_zero, List.getElem_cons_succ, Act.put, List.setIfInBounds_toArray, List.set_cons_zero, List.set_cons_succ]
  refine wpList_wanted (by kernel_rfl) fun Kt hKt => ?_
  go_simp
  refine hKt _ _ ?_
  clear hKt Kt
  try simp only [List.getElem_toArray, List.getElem_cons_zero, List.getElem_cons_succ, Act.put, List.setIfInBounds_toArray, List.set_cons_zero, List.set_cons_succ]
  refine wpList_vgload (by kernel_rfl) 41 (.tmp 69) rfl (w.heap.size + 1) 47 rfl _ Tryz.underlying41 rfl (lC y.ls y.lc y.order c.od c.nod) infoLt (unhide HY).fl ?_
  try simp only [List.getElem_toArray, List.getElem_cons_zero, List.getElem_cons_succ, Act.put, List.setIfInBounds_toArray, List.set_cons_zero, List.set_cons_succ]
  refine wpList_wanted (by kernel_rfl) fun Kt hKt => ?_
  go_simp
  refine (sameLt_any x y a.od c.od a.nod c.nod W4 ((unhide FX).od.keep (unhide HB)) ((unhide FY).od.keep (unhide HB))).mono ?_; rintro x W5 ⟨rfl, hG⟩
  dsimp only
  rw [hb9]
  refine hKt _ _ ?_
  clear hKt Kt
  have HX := hide ((unhide HX).keep hG); have HY := hide ((unhide HY).keep hG); have HB := hide (thenB (unhide HB) hG)
  clear hG
  try simp only [List.getElem_toArray, List.getElem_cons_zero, List.getElem_cons_succ, Act.put, List.setIfInBounds_toArray, List.set_cons_zero, List.set_cons_succ]
  clear hb9
  cases b9
  case false =>
    go_wp2_with fail
    go_ret
    exact ⟨by rw [unhide HR]; rfl, unhide HB⟩
  refine wpList_plain rfl fun Kt hKt => ?_
  go_simp
  refine hKt _ _ ?_
  clear hKt Kt
  try simp only [List.getElem_toArray, List.getElem_cons_zero, List.getElem_cons_succ, Act.put, List.setIfInBounds_toArray, List.set_cons_zero, List.set_cons_succ]
  refine wpList_plain rfl fun Kt hKt => ?_
  go_simp
  refine hKt _ _ ?_
  clear hKt Kt
  try simp only [List.getElem_toArray, List.getElem_cons_zero, List.getElem_cons_succ, Act.put, List.setIfInBounds_toArray, List.set_cons_zero, List.set_cons_succ]
  refine wpList_wanted (by kernel_rfl) fun Kt hKt => ?_
  go_simp
  refine hKt _ _ ?_
  clear hKt Kt
  try simp only [List.getElem_toArray, List.getElem_cons_zero, List.getElem_cons_succ, Act.put, List.setIfInBounds_toArray, List.set_cons_zero, List.set_cons_succ]
  refine wpList_vgload (by kernel_rfl) 43 (.tmp 74) rfl w.heap.size 50 rfl _ Tryz.underlying43 rfl (vC x) (by rw [vC, List.length_map, (unhide FX).void]; exact infoDg) (unhide HX).fv ?_
  try simp only [List.getElem_toArray, List.getElem_cons_zero, List.getElem_cons_succ, Act.put, List.setIfInBounds_toArray, List.set_cons_zero, List.set_cons_succ]
  refine wpList_wanted (by kernel_rfl) fun Kt hKt => ?_
  go_simp
  refine hKt _ _ ?_
  clear hKt Kt
  try simp only [List.getElem_toArray, List.getElem_cons_zero, List.getElem_cons_succ, Act.put, List.setIfInBounds_toArray, List.set_cons_zero, List.set_cons_succ]
  refine wpList_vgload (by kernel_rfl) 43 (.tmp 76) rfl (w.heap.size + 1) 50 rfl _ Tryz.underlying43 rfl (vC y) (by rw [vC, List.length_map, (unhide FY).void]; exact infoDg) (unhide HY).fv ?_
  try simp only [List.getElem_toArray, List.getElem_cons_zero, List.getElem_cons_succ, Act.put, List.setIfInBounds_toArray, List.set_cons_zero, List.set_cons_succ]
  refine wpList_cmpW (by kernel_rfl) 43 43 (.tmp 75) (.tmp 77) rfl _ _ b10 rfl rfl (dg_guard _ _ x.void y.void _) (by rw [← hb10]; exact dg_cmp x.void y.void (unhide FX).void (unhide FY).void _) ?_
  try simp only [List.getElem_toArray, List.getElem_cons_zero, List.getElem_cons_succ, Act.put, List.setIfInBounds_toArray, List.set_cons_zero, List.set_cons_succ]
  clear hb10
  refine wpList_plain rfl fun Kt hKt => ?_
  go_simp
  refine hKt _ _ ?_
  clear hKt Kt
  try simp only [List.getElem_toArray, List.getElem_cons_zero, List.getElem_cons_succ, Act.put, List.setIfInBounds_toArray, List.set_cons_zero, List.set_cons_succ]
  go_wp2_with fail
  go_ret
  exact ⟨by rw [unhide HR]; rfl, unhide HB⟩
end Go.Proofs.YtdmaopfaeigelaaGreatDoor
