/- Contracts over the program of facts: the map of conditions. -/
import Derived.Test.YtdmaopfaeigelaaGreatDoorFacABC
import Derived.Maps.Own
import Derived.Maps.OwnSet
namespace Go.Proofs.YtdmaopfaeigelaaGreatDoor
set_option linter.unusedSimpArgs false
set_option linter.unusedVariables false
open Go.RowKit

/-- an entry of a map under construction -/
theorem wpList_insert_own {H : Type} {P : Program} (w : World) {ops : Array Oper} {rest : List Oper} {o : Oper} {a : Act} {Q : Exit → Act → World → Prop}
    (hg : o.guard = none) (m x v : Operand) (t : TypeId) (hop : o.op = Op.insert t m x v)
    (k e : TypeId) (K : Maps.Keyed P k) (ht : P.underlying t = some (.map k e)) (R : Value → Option (DataW H × List MemPlace)) (b n : Nat) (D : DataW H)
    (hm : a.eval m = .map (some b)) (hown : w.ownsMap P k R b n D) (hn : n < maxLen) (key val : Value) (kl : Lit) (hx : a.eval x = key) (hv : a.eval v = val) (hkey : keyOf P k key = some kl)
    (d : DataW H) (ps : List MemPlace) (hval : R val = some (d, ps))
    (hK : ∀ w', w'.ownsMap P k R b (n + 1) (D.put kl d) → w.grownBy w' (some b) → wpList P ops Q rest (a.put o.dst undef) w') :
    wpList P ops Q (o :: rest) a w := by
  refine wpList_plain hg fun K' hK' => ?_
  obtain ⟨w', hrun, r1, r2⟩ := hown.update K ht hn hkey hval
  unfold Oper.wp
  simp [execOp, hop, hm, hx, hv, hrun, Result.andThen]
  exact hK' _ _ (hK w' r1 r2)

/-- a function as a value; two functions as a struct -/
def fnV (i : Nat) : Value := .func (.func i) #[] #[]
def fnN : Value → Option Nat
  | .func (.func i) a b => match a.toList, b.toList with
    | [], [] => some (i + 1)
    | _, _ => none
  | .nilFunc => some 0
  | _ => none
theorem fnN_inv {v : Value} {i : Nat} (h : fnN v = some (i + 1)) : v = fnV i := by
  cases v with
  | func f a b =>
    cases f with
    | func k =>
      obtain ⟨a⟩ := a
      obtain ⟨b⟩ := b
      cases a with
      | cons _ _ => simp [fnN] at h
      | nil => cases b with
        | cons _ _ => simp [fnN] at h
        | nil =>
          simp [fnN] at h
          rw [h]
          rfl
    | _ => simp [fnN] at h
  | nilFunc => simp [fnN] at h
  | _ => simp [fnN] at h
/-- how a pair of functions reads -/
def cR (v : Value) : Option (DataW Unit × List MemPlace) := match v with
  | .agg l => match l.toList with
    | [x, y] => match fnN x, fnN y with
      | some a, some b => some (.agg [.lit (.int .i64 (a : Int)), .lit (.int .i64 (b : Int))], [])
      | _, _ => none
    | _ => none
  | _ => none
def cD (i j : Nat) : DataW Unit := .agg [.lit (.int .i64 ((i + 1 : Nat) : Int)), .lit (.int .i64 ((j + 1 : Nat) : Int))]
def cV (i j : Nat) : Value := .agg #[fnV i, fnV j]
theorem cR_mk (i j : Nat) : cR (cV i j) = some (cD i j, []) := rfl
theorem cR_inv {v : Value} {i j : Nat} {ps : List MemPlace} (h : cR v = some (cD i j, ps)) : v = cV i j := by
  cases v with
  | agg l =>
    obtain ⟨l⟩ := l
    match l, h with
    | [], h => simp [cR] at h
    | [_], h => simp [cR] at h
    | _ :: _ :: _ :: _, h => simp [cR] at h
    | [x, y], h =>
      cases ha : fnN x with
      | none => simp [cR, ha] at h
      | some a =>
        cases hb : fnN y with
        | none => simp [cR, ha, hb] at h
        | some b =>
          simp [cR, cD, ha, hb] at h
          obtain ⟨⟨h1, h2⟩, _⟩ := h
          obtain rfl : a = i + 1 := by omega
          obtain rfl : b = j + 1 := by omega
          rw [fnN_inv ha, fnN_inv hb]
          rfl
  | _ => simp [cR] at h
theorem keyZ (j : Int) (h : (Lit.int .i64 j).wf = true) : keyOf Tryz.prog 3 (.int .i64 j) = some (.int .i64 j) := Maps.keyOf_int_mk Tryz.underlying3 h

def condD : DataW Unit := ((((((((DataW.map []).put (.int .i64 1) (cD 109 111)).put (.int .i64 2) (cD 112 114)).put (.int .i64 3) (cD 115 117)).put (.int .i64 4) (cD 118 120)).put (.int .i64 5) (cD 121 123)).put (.int .i64 6) (cD 124 126)).put (.int .i64 7) (cD 127 129)).put (.int .i64 8) (cD 130 131)
def condI : Int → Nat × Nat
  | 1 => (109, 111)
  | 2 => (112, 114)
  | 3 => (115, 117)
  | 4 => (118, 120)
  | 5 => (121, 123)
  | 6 => (124, 126)
  | 7 => (127, 129)
  | 8 => (130, 131)
  | _ => (0, 0)
theorem condD_yes (k : Int) (h1 : 1 ≤ k) (h2 : k ≤ 8) (z : DataW Unit) : condD.atKey (.int .i64 k) z = cD (condI k).1 (condI k).2 ∧ Maps.has condD (.int .i64 k) = true := by
  have : k = 1 ∨ k = 2 ∨ k = 3 ∨ k = 4 ∨ k = 5 ∨ k = 6 ∨ k = 7 ∨ k = 8 := by omega
  rcases this with rfl | rfl | rfl | rfl | rfl | rfl | rfl | rfl <;> exact ⟨rfl, rfl⟩
theorem condD_no (k : Int) (h : ¬ (1 ≤ k ∧ k ≤ 8)) : Maps.has condD (.int .i64 k) = false := by
  unfold condD
  have hne : ∀ j : Int, 1 ≤ j → j ≤ 8 → Lit.int .i64 k ≠ Lit.int .i64 j := fun j a b e => by
    injection e with _ e
    omega
  rw [Maps.has_put_other (hne 8 (by decide) (by decide)), Maps.has_put_other (hne 7 (by decide) (by decide)), Maps.has_put_other (hne 6 (by decide) (by decide)), Maps.has_put_other (hne 5 (by decide) (by decide)), Maps.has_put_other (hne 4 (by decide) (by decide)), Maps.has_put_other (hne 3 (by decide) (by decide)), Maps.has_put_other (hne 2 (by decide) (by decide)), Maps.has_put_other (hne 1 (by decide) (by decide))]
  rfl
theorem cond_zero (w : World) : (zeroValue 100).run Tryz.prog w = .ok (.agg #[.nilFunc, .nilFunc]) w := by kernel_rfl
set_option maxRecDepth 100000 in
set_option maxHeartbeats 1000000 in
theorem cond_any (w : World) : Calls Tryz.prog 63 #[] w fun x w' => x = .returned (.map (some w.heap.size)) ∧ Below w.heap.size w w' ∧ w'.ownsMap Tryz.prog 3 cR w.heap.size 8 condD := by
  have hmm := @run_makeMap Tryz.prog
  go_enter Tryz.func63, Tryz.ntmps63
  go_wp2_with fail
  generalize hX0 : w.alloc _ = W0
  have hB0 : Below w.heap.size w W0 := hX0 ▸ (Below.refl _ _).alloc (Nat.le_refl _) _
  have hO0 : W0.ownsMap Tryz.prog 3 cR w.heap.size 0 (DataW.map []) := hX0 ▸ World.ownsMap_made w _ _ _
  have HB0 := hide hB0; have HO0 := hide hO0
  clear hX0 hB0 hO0
  obtain ⟨W1, hr1, hO1, hg1⟩ := (unhide HO0).update (Maps.int_keyed Tryz.underlying3) Tryz.underlying102 (by unfold maxLen; omega) (keyZ 1 rfl) (cR_mk 109 111)
  unfold cV fnV at hr1
  have HB1 := hide ((unhide HB0).grown hg1 (unhide HB0).size (fun q hq => by injection hq with hq; omega))
  have HO1 := hide hO1
  clear HO0 HB0 hO1 hg1
  rw [hr1]
  clear hr1
  go_wp2_with fail
  obtain ⟨W2, hr2, hO2, hg2⟩ := (unhide HO1).update (Maps.int_keyed Tryz.underlying3) Tryz.underlying102 (by unfold maxLen; omega) (keyZ 2 rfl) (cR_mk 112 114)
  unfold cV fnV at hr2
  have HB2 := hide ((unhide HB1).grown hg2 (unhide HB1).size (fun q hq => by injection hq with hq; omega))
  have HO2 := hide hO2
  clear HO1 HB1 hO2 hg2
  rw [hr2]
  clear hr2
  go_wp2_with fail
  obtain ⟨W3, hr3, hO3, hg3⟩ := (unhide HO2).update (Maps.int_keyed Tryz.underlying3) Tryz.underlying102 (by unfold maxLen; omega) (keyZ 3 rfl) (cR_mk 115 117)
  unfold cV fnV at hr3
  have HB3 := hide ((unhide HB2).grown hg3 (unhide HB2).size (fun q hq => by injection hq with hq; omega))
  have HO3 := hide hO3
  clear HO2 HB2 hO3 hg3
  rw [hr3]
  clear hr3
  go_wp2_with fail
  obtain ⟨W4, hr4, hO4, hg4⟩ := (unhide HO3).update (Maps.int_keyed Tryz.underlying3) Tryz.underlying102 (by unfold maxLen; omega) (keyZ 4 rfl) (cR_mk 118 120)
  unfold cV fnV at hr4
  have HB4 := hide ((unhide HB3).grown hg4 (unhide HB3).size (fun q hq => by injection hq with hq; omega))
  have HO4 := hide hO4
  clear HO3 HB3 hO4 hg4
  rw [hr4]
  clear hr4
  go_wp2_with fail
  obtain ⟨W5, hr5, hO5, hg5⟩ := (unhide HO4).update (Maps.int_keyed Tryz.underlying3) Tryz.underlying102 (by unfold maxLen; omega) (keyZ 5 rfl) (cR_mk 121 123)
  unfold cV fnV at hr5
  have HB5 := hide ((unhide HB4).grown hg5 (unhide HB4).size (fun q hq => by injection hq with hq; omega))
  have HO5 := hide hO5
  clear HO4 HB4 hO5 hg5
  rw [hr5]
  clear hr5
  go_wp2_with fail
  obtain ⟨W6, hr6, hO6, hg6⟩ := (unhide HO5).update (Maps.int_keyed Tryz.underlying3) Tryz.underlying102 (by unfold maxLen; omega) (keyZ 6 rfl) (cR_mk 124 126)
  unfold cV fnV at hr6
  have HB6 := hide ((unhide HB5).grown hg6 (unhide HB5).size (fun q hq => by injection hq with hq; omega))
  have HO6 := hide hO6
  clear HO5 HB5 hO6 hg6
  rw [hr6]
  clear hr6
  go_wp2_with fail
  obtain ⟨W7, hr7, hO7, hg7⟩ := (unhide HO6).update (Maps.int_keyed Tryz.underlying3) Tryz.underlying102 (by unfold maxLen; omega) (keyZ 7 rfl) (cR_mk 127 129)
  unfold cV fnV at hr7
  have HB7 := hide ((unhide HB6).grown hg7 (unhide HB6).size (fun q hq => by injection hq with hq; omega))
  have HO7 := hide hO7
  clear HO6 HB6 hO7 hg7
  rw [hr7]
  clear hr7
  go_wp2_with fail
  obtain ⟨W8, hr8, hO8, hg8⟩ := (unhide HO7).update (Maps.int_keyed Tryz.underlying3) Tryz.underlying102 (by unfold maxLen; omega) (keyZ 8 rfl) (cR_mk 130 131)
  unfold cV fnV at hr8
  have HB8 := hide ((unhide HB7).grown hg8 (unhide HB7).size (fun q hq => by injection hq with hq; omega))
  have HO8 := hide hO8
  clear HO7 HB7 hO8 hg8
  rw [hr8]
  clear hr8
  go_wp2_with fail
  go_ret
  exact ⟨rfl, unhide HB8, unhide HO8⟩

def rcondD : DataW Unit := ((((((((DataW.map []).put (.int .i64 1) (cD 225 226)).put (.int .i64 2) (cD 227 228)).put (.int .i64 3) (cD 229 230)).put (.int .i64 4) (cD 231 232)).put (.int .i64 5) (cD 233 235)).put (.int .i64 6) (cD 236 237)).put (.int .i64 7) (cD 238 239)).put (.int .i64 8) (cD 240 241)
def rcondI : Int → Nat × Nat
  | 1 => (225, 226)
  | 2 => (227, 228)
  | 3 => (229, 230)
  | 4 => (231, 232)
  | 5 => (233, 235)
  | 6 => (236, 237)
  | 7 => (238, 239)
  | 8 => (240, 241)
  | _ => (0, 0)
theorem rcondD_yes (k : Int) (h1 : 1 ≤ k) (h2 : k ≤ 8) (z : DataW Unit) : rcondD.atKey (.int .i64 k) z = cD (rcondI k).1 (rcondI k).2 ∧ Maps.has rcondD (.int .i64 k) = true := by
  have : k = 1 ∨ k = 2 ∨ k = 3 ∨ k = 4 ∨ k = 5 ∨ k = 6 ∨ k = 7 ∨ k = 8 := by omega
  rcases this with rfl | rfl | rfl | rfl | rfl | rfl | rfl | rfl <;> exact ⟨rfl, rfl⟩
theorem rcondD_no (k : Int) (h : ¬ (1 ≤ k ∧ k ≤ 8)) : Maps.has rcondD (.int .i64 k) = false := by
  unfold rcondD
  have hne : ∀ j : Int, 1 ≤ j → j ≤ 8 → Lit.int .i64 k ≠ Lit.int .i64 j := fun j a b e => by
    injection e with _ e
    omega
  rw [Maps.has_put_other (hne 8 (by decide) (by decide)), Maps.has_put_other (hne 7 (by decide) (by decide)), Maps.has_put_other (hne 6 (by decide) (by decide)), Maps.has_put_other (hne 5 (by decide) (by decide)), Maps.has_put_other (hne 4 (by decide) (by decide)), Maps.has_put_other (hne 3 (by decide) (by decide)), Maps.has_put_other (hne 2 (by decide) (by decide)), Maps.has_put_other (hne 1 (by decide) (by decide))]
  rfl
theorem rcond_zero (w : World) : (zeroValue 192).run Tryz.prog w = .ok (.agg #[.nilFunc, .nilFunc]) w := by kernel_rfl
set_option maxRecDepth 100000 in
set_option maxHeartbeats 1000000 in
theorem rcond_any (w : World) : Calls Tryz.prog 195 #[] w fun x w' => x = .returned (.map (some w.heap.size)) ∧ Below w.heap.size w w' ∧ w'.ownsMap Tryz.prog 3 cR w.heap.size 8 rcondD := by
  have hmm := @run_makeMap Tryz.prog
  go_enter Tryz.func195, Tryz.ntmps195
  go_wp2_with fail
  generalize hX0 : w.alloc _ = W0
  have hB0 : Below w.heap.size w W0 := hX0 ▸ (Below.refl _ _).alloc (Nat.le_refl _) _
  have hO0 : W0.ownsMap Tryz.prog 3 cR w.heap.size 0 (DataW.map []) := hX0 ▸ World.ownsMap_made w _ _ _
  have HB0 := hide hB0; have HO0 := hide hO0
  clear hX0 hB0 hO0
  obtain ⟨W1, hr1, hO1, hg1⟩ := (unhide HO0).update (Maps.int_keyed Tryz.underlying3) Tryz.underlying194 (by unfold maxLen; omega) (keyZ 1 rfl) (cR_mk 225 226)
  unfold cV fnV at hr1
  have HB1 := hide ((unhide HB0).grown hg1 (unhide HB0).size (fun q hq => by injection hq with hq; omega))
  have HO1 := hide hO1
  clear HO0 HB0 hO1 hg1
  rw [hr1]
  clear hr1
  go_wp2_with fail
  obtain ⟨W2, hr2, hO2, hg2⟩ := (unhide HO1).update (Maps.int_keyed Tryz.underlying3) Tryz.underlying194 (by unfold maxLen; omega) (keyZ 2 rfl) (cR_mk 227 228)
  unfold cV fnV at hr2
  have HB2 := hide ((unhide HB1).grown hg2 (unhide HB1).size (fun q hq => by injection hq with hq; omega))
  have HO2 := hide hO2
  clear HO1 HB1 hO2 hg2
  rw [hr2]
  clear hr2
  go_wp2_with fail
  obtain ⟨W3, hr3, hO3, hg3⟩ := (unhide HO2).update (Maps.int_keyed Tryz.underlying3) Tryz.underlying194 (by unfold maxLen; omega) (keyZ 3 rfl) (cR_mk 229 230)
  unfold cV fnV at hr3
  have HB3 := hide ((unhide HB2).grown hg3 (unhide HB2).size (fun q hq => by injection hq with hq; omega))
  have HO3 := hide hO3
  clear HO2 HB2 hO3 hg3
  rw [hr3]
  clear hr3
  go_wp2_with fail
  obtain ⟨W4, hr4, hO4, hg4⟩ := (unhide HO3).update (Maps.int_keyed Tryz.underlying3) Tryz.underlying194 (by unfold maxLen; omega) (keyZ 4 rfl) (cR_mk 231 232)
  unfold cV fnV at hr4
  have HB4 := hide ((unhide HB3).grown hg4 (unhide HB3).size (fun q hq => by injection hq with hq; omega))
  have HO4 := hide hO4
  clear HO3 HB3 hO4 hg4
  rw [hr4]
  clear hr4
  go_wp2_with fail
  obtain ⟨W5, hr5, hO5, hg5⟩ := (unhide HO4).update (Maps.int_keyed Tryz.underlying3) Tryz.underlying194 (by unfold maxLen; omega) (keyZ 5 rfl) (cR_mk 233 235)
  unfold cV fnV at hr5
  have HB5 := hide ((unhide HB4).grown hg5 (unhide HB4).size (fun q hq => by injection hq with hq; omega))
  have HO5 := hide hO5
  clear HO4 HB4 hO5 hg5
  rw [hr5]
  clear hr5
  go_wp2_with fail
  obtain ⟨W6, hr6, hO6, hg6⟩ := (unhide HO5).update (Maps.int_keyed Tryz.underlying3) Tryz.underlying194 (by unfold maxLen; omega) (keyZ 6 rfl) (cR_mk 236 237)
  unfold cV fnV at hr6
  have HB6 := hide ((unhide HB5).grown hg6 (unhide HB5).size (fun q hq => by injection hq with hq; omega))
  have HO6 := hide hO6
  clear HO5 HB5 hO6 hg6
  rw [hr6]
  clear hr6
  go_wp2_with fail
  obtain ⟨W7, hr7, hO7, hg7⟩ := (unhide HO6).update (Maps.int_keyed Tryz.underlying3) Tryz.underlying194 (by unfold maxLen; omega) (keyZ 7 rfl) (cR_mk 238 239)
  unfold cV fnV at hr7
  have HB7 := hide ((unhide HB6).grown hg7 (unhide HB6).size (fun q hq => by injection hq with hq; omega))
  have HO7 := hide hO7
  clear HO6 HB6 hO7 hg7
  rw [hr7]
  clear hr7
  go_wp2_with fail
  obtain ⟨W8, hr8, hO8, hg8⟩ := (unhide HO7).update (Maps.int_keyed Tryz.underlying3) Tryz.underlying194 (by unfold maxLen; omega) (keyZ 8 rfl) (cR_mk 240 241)
  unfold cV fnV at hr8
  have HB8 := hide ((unhide HB7).grown hg8 (unhide HB7).size (fun q hq => by injection hq with hq; omega))
  have HO8 := hide hO8
  clear HO7 HB7 hO8 hg8
  rw [hr8]
  clear hr8
  go_wp2_with fail
  go_ret
  exact ⟨rfl, unhide HB8, unhide HO8⟩
end Go.Proofs.YtdmaopfaeigelaaGreatDoor
