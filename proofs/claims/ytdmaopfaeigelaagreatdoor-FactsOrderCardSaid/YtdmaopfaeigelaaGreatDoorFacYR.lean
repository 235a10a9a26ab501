/- Contracts over the program of facts: what the value of a move reads as; its encoding. Contracts over the program of facts: the map of builders; the reader's next element. Contracts over the program of facts: the reader of values: next, number; the builder of a move; the look-up of a key. Contracts over the program of facts: the builder of a move; the look-up of a key. -/
import Derived.Test.YtdmaopfaeigelaaGreatDoorFacX
import Derived.Test.YtdmaopfaeigelaaGreatDoorFacM
import Derived.Test.YtdmaopfaeigelaaGreatDoorCodVal
import Derived.Test.YtdmaopfaeigelaaGreatDoorCodRd2
import Derived.Test.YtdmaopfaeigelaaGreatDoorCodGet
import Derived.StillTailTactics
import Derived.Test.YtdmaopfaeigelaaGreatDoorFacH
import Derived.Test.YtdmaopfaeigelaaGreatDoorFacO
namespace Go.Proofs.YtdmaopfaeigelaaGreatDoor
set_option linter.unusedSimpArgs false
set_option linter.unusedVariables false
open Go.RowKit

def numA (n : Int) : Va := .mk 1 n ByteArray.empty [] []
theorem vat_num {w : World} {n : Int} (h : I64 n) : VAt w (numA n) (.agg (numL n).toArray) :=
  .mk 1 n ByteArray.empty [] [] none 0 none 0 ⟨by decide, by decide⟩ h (by decide) (by simp) (by simp) (fun _ => rfl) (fun _ => rfl) (Nat.le_refl _) 0 0 (fun _ => .nilFunc) (fun i hi => absurd hi (by simp)) (fun i x hi => by simp at hi) (fun i s hi => by simp at hi)
theorem rawCells_at : ∀ (ys : List Raw) (i j : Nat) (x : Raw), ys[i]? = some x → j < 5 → (rawCells ys)[i * 5 + j]? = x.cs[j]?
  | [], i, j, x, h, _ => by simp at h
  | y :: ys, 0, j, x, h, hj => by
    simp at h
    subst h
    simp only [rawCells, List.flatMap_cons]
    rw [List.getElem?_append_left (by rw [y.len]; omega)]
    simp
  | y :: ys, i + 1, j, x, h, hj => by
    simp at h
    have ih := rawCells_at ys i j x h hj
    simp only [rawCells, List.flatMap_cons] at ih ⊢
    rw [List.getElem?_append_right (by rw [y.len]; omega), y.len, ← ih]
    congr 1
    omega
theorem five_of (x : Raw) : ∃ a b c d e, x.cs = [a, b, c, d, e] := by
  obtain ⟨l, h, _⟩ := x
  match l, h with
  | [a, b, c, d, e], _ => exact ⟨a, b, c, d, e, rfl⟩
theorem own_cells {w : World} {B : Nat} {v : Value} {n : Nat} {t : TypeId} {s : Nat} {xs : List Value} (h : w.ownsRow B t s v n xs) {g c : Nat} (hv : v = .slice (some ⟨g, 0, none⟩) n c) (j : Nat) (hj : j < xs.length) : w.cell? ⟨g, j, none⟩ = xs[j]? := by
  subst hv
  have := h.cells (g := g) rfl j xs[j] (List.getElem?_eq_getElem hj)
  rw [addr_at] at this
  rw [this, List.getElem?_eq_getElem hj]
/-- a row of values reads as the list of what they read as -/
theorem vat_list {w : World} {B : Nat} {v : Value} {ys : List Raw} {Vs : List Va} (h : w.ownsRow B 66 5 v ys.length (rawCells ys)) (hl : Vs.length = ys.length) (hv : ∀ (i : Nat) (x : Raw) (V : Va), ys[i]? = some x → Vs[i]? = some V → VAt w V (.agg x.cs.toArray)) (hfew : ys.length ≤ 1000) :
    VAt w (.mk 3 0 ByteArray.empty Vs []) (.agg (listL v).toArray) := by
  have key : ∀ (A : Option Addr) (c g : Nat), v = .slice A ys.length c → (0 < ys.length → A = some ⟨g, 0, none⟩) → (A = none → c = 0) → ys.length ≤ c → VAt w (.mk 3 0 ByteArray.empty Vs []) (.agg (listL v).toArray) := by
    intro A c g e hA hA0 hcp
    have e2 : (Value.agg (listL v).toArray) = .agg #[.int .i64 3, .int .i64 0, .string ByteArray.empty, .slice A Vs.length c, .slice none ([] : List ByteArray).length 0] := by rw [e, hl]; rfl
    rw [e2]
    refine .mk 3 0 ByteArray.empty Vs [] A c none 0 ⟨by decide, by decide⟩ ⟨by decide, by decide⟩ (by decide) (by omega) (by simp) hA0 (fun _ => rfl) (by omega) g 0 (fun i => .agg ((ys[i]?).map Raw.cs |>.getD []).toArray) ?_ ?_ (fun i s hi => by simp at hi)
    · intro i hi
      have hi' : i < ys.length := by omega
      have ha := hA (by omega)
      refine ⟨ha, ?_⟩
      obtain ⟨x, hx⟩ : ∃ x, ys[i]? = some x := ⟨_, List.getElem?_eq_getElem hi'⟩
      obtain ⟨x0, x1, x2, x3, x4, hx5⟩ := five_of x
      have hc : ∀ j, j < 5 → w.cell? ⟨g, 0 + i * 5 + j, none⟩ = x.cs[j]? := fun j hj => by
        rw [Nat.zero_add, own_cells h (by rw [e, ha]) (i * 5 + j) (by rw [rawCells_len]; omega), rawCells_at ys i j x hx hj]
      rw [hx]
      refine ⟨x0, x1, x2, x3, x4, by simp [hx5], ?_, ?_, ?_, ?_, ?_⟩
      · have := hc 0 (by omega); rw [hx5] at this; exact this
      · have := hc 1 (by omega); rw [hx5] at this; exact this
      · have := hc 2 (by omega); rw [hx5] at this; exact this
      · have := hc 3 (by omega); rw [hx5] at this; exact this
      · have := hc 4 (by omega); rw [hx5] at this; exact this
    · intro i V hi
      have hi' : i < ys.length := by have := (List.getElem?_eq_some_iff.1 hi).1; omega
      obtain ⟨x, hx⟩ : ∃ x, ys[i]? = some x := ⟨_, List.getElem?_eq_getElem hi'⟩
      rw [hx]
      exact hv i x V hx hi
  rcases h.2 with ⟨rfl, h0⟩ | ⟨g, cap, cur, rfl, _, _, hnc, _⟩
  · exact key none 0 0 (by rw [h0]) (fun hp => by omega) (fun _ => rfl) (by omega)
  · exact key _ cap g rfl (fun _ => rfl) (fun e => by cases e) hnc
def factA (f : Fc) (W : Va) : Va := .mk 4 0 ByteArray.empty [numA f.day, numA f.kind, numA f.known, W] [dayS, kindS, knownS, whatS]
/-- the value of a fact, given what its content reads as -/
theorem vat_fact {w' : World} {f : Fc} {v : Value} {gL gK : Nat} {W : Va} (hd : I64 f.day) (hk : I64 f.kind) (hn : I64 f.known) (hL : VsAt w' gL 66 (numL f.day ++ (numL f.kind ++ (numL f.known ++ listL v)))) (hK : VsAt w' gK 9 keysL) (hW : VAt w' W (.agg (listL v).toArray)) :
    VAt w' (factA f W) (.agg #[.int .i64 4, .int .i64 0, .string ByteArray.empty, .slice (some ⟨gL, 0, none⟩) 4 4, .slice (some ⟨gK, 0, none⟩) 4 4]) := by
  refine .mk 4 0 ByteArray.empty [numA f.day, numA f.kind, numA f.known, W] [dayS, kindS, knownS, whatS] (some ⟨gL, 0, none⟩) 4 (some ⟨gK, 0, none⟩) 4 ⟨by decide, by decide⟩ ⟨by decide, by decide⟩ (by decide) (by simp) (by simp) (fun e => by cases e) (fun e => by cases e) (by simp) gL 0
    (fun i => match i with | 0 => .agg (numL f.day).toArray | 1 => .agg (numL f.kind).toArray | 2 => .agg (numL f.known).toArray | _ => .agg (listL v).toArray) ?_ ?_ ?_
  · intro i hi
    refine ⟨rfl, ?_⟩
    match i, hi with
    | 0, _ => exact ⟨_, _, _, _, _, rfl, hL.cell rfl, hL.cell rfl, hL.cell rfl, hL.cell rfl, hL.cell rfl⟩
    | 1, _ => exact ⟨_, _, _, _, _, rfl, hL.cell rfl, hL.cell rfl, hL.cell rfl, hL.cell rfl, hL.cell rfl⟩
    | 2, _ => exact ⟨_, _, _, _, _, rfl, hL.cell rfl, hL.cell rfl, hL.cell rfl, hL.cell rfl, hL.cell rfl⟩
    | 3, _ => exact ⟨_, _, _, _, _, rfl, hL.cell rfl, hL.cell rfl, hL.cell rfl, hL.cell rfl, hL.cell rfl⟩
  · intro i V hi
    match i, hi with
    | 0, hi => simp at hi; subst hi; exact vat_num hd
    | 1, hi => simp at hi; subst hi; exact vat_num hk
    | 2, hi => simp at hi; subst hi; exact vat_num hn
    | 3, hi => simp at hi; subst hi; exact hW
    | n + 4, hi => simp at hi
  · intro i s hi
    match i, hi with
    | 0, hi => simp at hi; subst hi; exact ⟨gK, 0, rfl, hK.cell rfl, by decide⟩
    | 1, hi => simp at hi; subst hi; exact ⟨gK, 0, rfl, hK.cell rfl, by decide⟩
    | 2, hi => simp at hi; subst hi; exact ⟨gK, 0, rfl, hK.cell rfl, by decide⟩
    | 3, hi => simp at hi; subst hi; exact ⟨gK, 0, rfl, hK.cell rfl, by decide⟩
    | n + 4, hi => simp at hi
def moveA (f : Fc) : Va := .mk 3 0 ByteArray.empty [numA f.mp, numA f.mt] []
theorem valueMove_any (f : Fc) (a : Ad) (hk : f.kind = 6) (hv32 : f.void.length = 32) (hd : I64 f.day) (hn : I64 f.known) (hp : I64 f.mp) (ht : I64 f.mt) (w : World) :
    Calls Tryz.prog 40 #[.agg (fC f a).toArray] w fun e w' => ∃ v, e = .returned v ∧ VAt w' (factA f (moveA f)) v ∧ Below w.heap.size w w' := by
  refine (valueOf_any f a hv32 [numV f.mp, numV f.mt] 2 (by omega) w fun W Bf hb hf => movesStop 4 (by omega) Bf f a hk W hf).mono ?_
  rintro e w' ⟨v, gL, gK, rfl, hL, hK, hr, hb⟩
  refine ⟨_, rfl, vat_fact hd (by rw [hk]; exact ⟨by decide, by decide⟩) hn hL hK (vat_list hr rfl ?_ (by simp)), hb⟩
  intro i x V h1 h2
  match i, h1, h2 with
  | 0, h1, h2 => simp at h1 h2; subst h1 h2; exact vat_num hp
  | 1, h1, h2 => simp at h1 h2; subst h1 h2; exact vat_num ht
  | n + 2, h1, h2 => simp at h1
end Go.Proofs.YtdmaopfaeigelaaGreatDoor
namespace Go.Proofs.YtdmaopfaeigelaaGreatDoor
set_option linter.unusedSimpArgs false
set_option linter.unusedVariables false
open Go.RowKit

/-- a function that captures the box bx -/
def bV (bx i : Nat) : Value := .func (.func i) #[] #[.pointer (some ⟨bx, 0, none⟩)]
def bN (bx : Nat) (v : Value) : Option Nat := match v with
  | .func (.func i) a b => match a.toList, b.toList with
    | [], [.pointer (some p)] => if p = ⟨bx, 0, none⟩ then some (i + 1) else none
    | _, _ => none
  | .nilFunc => some 0
  | _ => none
theorem bN_inv {bx : Nat} {v : Value} {i : Nat} (h : bN bx v = some (i + 1)) : v = bV bx i := by
  cases v with
  | func f a b =>
    cases f with
    | func k =>
      obtain ⟨a⟩ := a
      obtain ⟨b⟩ := b
      cases a with
      | cons _ _ => simp [bN] at h
      | nil =>
        cases b with
        | nil => simp [bN] at h
        | cons x t =>
          cases t with
          | cons _ _ => cases x <;> simp [bN] at h
          | nil =>
            cases x with
            | pointer p =>
              cases p with
              | none => simp [bN] at h
              | some p =>
                simp [bN] at h
                obtain ⟨rfl, rfl⟩ := h
                rfl
            | _ => simp [bN] at h
    | _ => simp [bN] at h
  | nilFunc => simp [bN] at h
  | _ => simp [bN] at h
def bR (bx : Nat) (v : Value) : Option (DataW Unit × List MemPlace) := (bN bx v).map fun a => (.lit (.int .i64 (a : Int)), [])
def bD (i : Nat) : DataW Unit := .lit (.int .i64 ((i + 1 : Nat) : Int))
theorem bR_mk (bx i : Nat) : bR bx (bV bx i) = some (bD i, []) := by simp [bR, bN, bV, bD]
theorem bR_inv {bx : Nat} {v : Value} {i : Nat} {ps : List MemPlace} (h : bR bx v = some (bD i, ps)) : v = bV bx i := by
  unfold bR at h
  cases hn : bN bx v with
  | none => rw [hn] at h; cases h
  | some a =>
    rw [hn] at h
    simp [bD] at h
    obtain ⟨h1, _⟩ := h
    obtain rfl : a = i + 1 := by omega
    exact bN_inv hn
def buildD : DataW Unit := ((((((((DataW.map []).put (.int .i64 1) (bD 164)).put (.int .i64 2) (bD 168)).put (.int .i64 3) (bD 170)).put (.int .i64 4) (bD 172)).put (.int .i64 5) (bD 173)).put (.int .i64 6) (bD 175)).put (.int .i64 7) (bD 176)).put (.int .i64 8) (bD 177)
def buildI : Int → Nat
  | 1 => 164
  | 2 => 168
  | 3 => 170
  | 4 => 172
  | 5 => 173
  | 6 => 175
  | 7 => 176
  | 8 => 177
  | _ => 0
theorem buildD_yes (k : Int) (h1 : 1 ≤ k) (h2 : k ≤ 8) (z : DataW Unit) : buildD.atKey (.int .i64 k) z = bD (buildI k) ∧ Maps.has buildD (.int .i64 k) = true := by
  have : k = 1 ∨ k = 2 ∨ k = 3 ∨ k = 4 ∨ k = 5 ∨ k = 6 ∨ k = 7 ∨ k = 8 := by omega
  rcases this with rfl | rfl | rfl | rfl | rfl | rfl | rfl | rfl <;> exact ⟨rfl, rfl⟩
theorem buildD_no (k : Int) (h : ¬ (1 ≤ k ∧ k ≤ 8)) : Maps.has buildD (.int .i64 k) = false := by
  unfold buildD
  have hne : ∀ j : Int, 1 ≤ j → j ≤ 8 → Lit.int .i64 k ≠ Lit.int .i64 j := fun j a b e => by
    injection e with _ e
    omega
  rw [Maps.has_put_other (hne 8 (by decide) (by decide)), Maps.has_put_other (hne 7 (by decide) (by decide)), Maps.has_put_other (hne 6 (by decide) (by decide)), Maps.has_put_other (hne 5 (by decide) (by decide)), Maps.has_put_other (hne 4 (by decide) (by decide)), Maps.has_put_other (hne 3 (by decide) (by decide)), Maps.has_put_other (hne 2 (by decide) (by decide)), Maps.has_put_other (hne 1 (by decide) (by decide))]
  rfl
theorem build_zero (w : World) : (zeroValue 125).run Tryz.prog w = .ok .nilFunc w := by kernel_rfl
set_option maxRecDepth 100000 in
set_option maxHeartbeats 1000000 in
theorem builders_any (rp : Value) (hrp : ∃ p, rp = .pointer p) (w : World) : Calls Tryz.prog 91 #[rp] w fun x w' => x = .returned (.map (some (w.heap.size + 1))) ∧ Below w.heap.size w w' ∧ w'.ownsMap Tryz.prog 3 (bR w.heap.size) (w.heap.size + 1) 8 buildD ∧ w'.cell? ⟨w.heap.size, 0, none⟩ = some rp := by
  obtain ⟨p, rfl⟩ := hrp
  have hmm := @run_makeMap Tryz.prog
  have hmf : ∀ (fn : Fn) (first cap : Array Value) (w : World), (Instr.makeFunc fn first cap).run Tryz.prog w = .ok (.func fn first cap) w := fun _ _ _ _ => rfl
  go_enter Tryz.func91, Tryz.ntmps91
  go_upto_region 1 with fail
  generalize hXx : w.alloc _ = Wx
  have hBx : Below w.heap.size w Wx := hXx ▸ (Below.refl _ _).alloc (Nat.le_refl _) _
  have hVx := boxedV w Wx [.pointer p] 122 (by rw [← hXx]; rfl)
  have hzx : Wx.heap.size = w.heap.size + 1 := by rw [← hXx]; show (w.heap.push _).size = _; rw [Array.size_push]
  have HVX := hide hVx; have HBX := hide hBx
  clear hXx hVx hBx
  go_wp2_with fail
  generalize hX0 : Wx.alloc _ = W0
  have hB0 : Below Wx.heap.size Wx W0 := hX0 ▸ (Below.refl _ _).alloc (Nat.le_refl _) _
  have hO0 : W0.ownsMap Tryz.prog 3 (bR w.heap.size) Wx.heap.size 0 (DataW.map []) := hX0 ▸ World.ownsMap_made Wx _ _ _
  rw [hzx] at hO0
  have HB0 := hide (thenB (unhide HBX) hB0); have HO0 := hide hO0; have HV0 := hide ((unhide HVX).keep hB0)
  clear hX0 hB0 hO0 hzx
  obtain ⟨W1, hr1, hO1, hg1⟩ := (unhide HO0).update (Maps.int_keyed Tryz.underlying3) Tryz.underlying127 (by unfold maxLen; omega) (keyZ 1 rfl) (bR_mk w.heap.size 164)
  unfold bV at hr1
  have HB1 := hide ((unhide HB0).grown hg1 (unhide HB0).size (fun q hq => by injection hq with hq; omega))
  have HO1 := hide hO1
  have HV1 := hide ((unhide HV0).grown hg1 (fun e => by have := Option.some.inj e; omega))
  clear HO0 HB0 HV0 hO1 hg1
  rw [hr1]
  clear hr1
  go_wp2_with fail
  obtain ⟨W2, hr2, hO2, hg2⟩ := (unhide HO1).update (Maps.int_keyed Tryz.underlying3) Tryz.underlying127 (by unfold maxLen; omega) (keyZ 2 rfl) (bR_mk w.heap.size 168)
  unfold bV at hr2
  have HB2 := hide ((unhide HB1).grown hg2 (unhide HB1).size (fun q hq => by injection hq with hq; omega))
  have HO2 := hide hO2
  have HV2 := hide ((unhide HV1).grown hg2 (fun e => by have := Option.some.inj e; omega))
  clear HO1 HB1 HV1 hO2 hg2
  rw [hr2]
  clear hr2
  go_wp2_with fail
  obtain ⟨W3, hr3, hO3, hg3⟩ := (unhide HO2).update (Maps.int_keyed Tryz.underlying3) Tryz.underlying127 (by unfold maxLen; omega) (keyZ 3 rfl) (bR_mk w.heap.size 170)
  unfold bV at hr3
  have HB3 := hide ((unhide HB2).grown hg3 (unhide HB2).size (fun q hq => by injection hq with hq; omega))
  have HO3 := hide hO3
  have HV3 := hide ((unhide HV2).grown hg3 (fun e => by have := Option.some.inj e; omega))
  clear HO2 HB2 HV2 hO3 hg3
  rw [hr3]
  clear hr3
  go_wp2_with fail
  obtain ⟨W4, hr4, hO4, hg4⟩ := (unhide HO3).update (Maps.int_keyed Tryz.underlying3) Tryz.underlying127 (by unfold maxLen; omega) (keyZ 4 rfl) (bR_mk w.heap.size 172)
  unfold bV at hr4
  have HB4 := hide ((unhide HB3).grown hg4 (unhide HB3).size (fun q hq => by injection hq with hq; omega))
  have HO4 := hide hO4
  have HV4 := hide ((unhide HV3).grown hg4 (fun e => by have := Option.some.inj e; omega))
  clear HO3 HB3 HV3 hO4 hg4
  rw [hr4]
  clear hr4
  go_wp2_with fail
  obtain ⟨W5, hr5, hO5, hg5⟩ := (unhide HO4).update (Maps.int_keyed Tryz.underlying3) Tryz.underlying127 (by unfold maxLen; omega) (keyZ 5 rfl) (bR_mk w.heap.size 173)
  unfold bV at hr5
  have HB5 := hide ((unhide HB4).grown hg5 (unhide HB4).size (fun q hq => by injection hq with hq; omega))
  have HO5 := hide hO5
  have HV5 := hide ((unhide HV4).grown hg5 (fun e => by have := Option.some.inj e; omega))
  clear HO4 HB4 HV4 hO5 hg5
  rw [hr5]
  clear hr5
  go_wp2_with fail
  obtain ⟨W6, hr6, hO6, hg6⟩ := (unhide HO5).update (Maps.int_keyed Tryz.underlying3) Tryz.underlying127 (by unfold maxLen; omega) (keyZ 6 rfl) (bR_mk w.heap.size 175)
  unfold bV at hr6
  have HB6 := hide ((unhide HB5).grown hg6 (unhide HB5).size (fun q hq => by injection hq with hq; omega))
  have HO6 := hide hO6
  have HV6 := hide ((unhide HV5).grown hg6 (fun e => by have := Option.some.inj e; omega))
  clear HO5 HB5 HV5 hO6 hg6
  rw [hr6]
  clear hr6
  go_wp2_with fail
  obtain ⟨W7, hr7, hO7, hg7⟩ := (unhide HO6).update (Maps.int_keyed Tryz.underlying3) Tryz.underlying127 (by unfold maxLen; omega) (keyZ 7 rfl) (bR_mk w.heap.size 176)
  unfold bV at hr7
  have HB7 := hide ((unhide HB6).grown hg7 (unhide HB6).size (fun q hq => by injection hq with hq; omega))
  have HO7 := hide hO7
  have HV7 := hide ((unhide HV6).grown hg7 (fun e => by have := Option.some.inj e; omega))
  clear HO6 HB6 HV6 hO7 hg7
  rw [hr7]
  clear hr7
  go_wp2_with fail
  obtain ⟨W8, hr8, hO8, hg8⟩ := (unhide HO7).update (Maps.int_keyed Tryz.underlying3) Tryz.underlying127 (by unfold maxLen; omega) (keyZ 8 rfl) (bR_mk w.heap.size 177)
  unfold bV at hr8
  have HB8 := hide ((unhide HB7).grown hg8 (unhide HB7).size (fun q hq => by injection hq with hq; omega))
  have HO8 := hide hO8
  have HV8 := hide ((unhide HV7).grown hg8 (fun e => by have := Option.some.inj e; omega))
  clear HO7 HB7 HV7 hO8 hg8
  rw [hr8]
  clear hr8
  go_wp2_with fail
  go_ret
  exact ⟨rfl, unhide HB8, unhide HO8, (unhide HV8).cell rfl⟩
/-- what a look-up of a kind finds -/
theorem build_look {W : World} {bx b : Nat} (h : W.ownsMap Tryz.prog 3 (bR bx) b 8 buildD) (k : Int) (hk : (Lit.int .i64 k).wf = true) :
    ∃ v, (Instr.lookup 127 (.map (some b)) (.int .i64 k) true).run Tryz.prog W = .ok (.tuple #[v, .bool (inR k 1 8)]) W ∧ (inR k 1 8 = true → v = bV bx (buildI k)) := by
  obtain ⟨v, ps, hrun, hv⟩ := h.look_ok (Maps.int_keyed Tryz.underlying3) Tryz.underlying127 (build_zero W) (zd := .lit (.int .i64 0)) (zp := []) rfl (keyZ k hk)
  by_cases hin : 1 ≤ k ∧ k ≤ 8
  · obtain ⟨h1, h2⟩ := buildD_yes k hin.1 hin.2 (.lit (.int .i64 0))
    rw [h1] at hv
    rw [h2] at hrun
    have hb : inR k 1 8 = true := by unfold inR; rw [decide_eq_true hin.1, decide_eq_true hin.2]; rfl
    rw [hb]
    exact ⟨v, hrun, fun _ => bR_inv hv⟩
  · rw [buildD_no k hin] at hrun
    have hb : inR k 1 8 = false := by
      unfold inR
      rw [Bool.and_eq_false_iff, decide_eq_false_iff_not, decide_eq_false_iff_not]
      omega
    rw [hb]
    exact ⟨v, hrun, fun h => absurd h (by decide)⟩
end Go.Proofs.YtdmaopfaeigelaaGreatDoor
namespace Go.Proofs.YtdmaopfaeigelaaGreatDoor
set_option linter.unusedSimpArgs false
set_option linter.unusedVariables false
open Go.RowKit

/-- the reader at block rb has these values before it -/
def RdV (w : World) (rb : Nat) (L : List Va) : Prop :=
  ∃ A c, (A = none → c = 0) ∧ L.length ≤ c ∧ L.length ≤ 140737488351232 ∧ w.heap[rb]? = some (.cells #[.slice A L.length c] 124 (0, 0)) ∧ ElsAt w A L
theorem ElsAt.below {w w' : World} {A : Option Addr} {l : List Va} (h : ElsAt w A l) (hb : Below w.heap.size w w') : ElsAt w' A l := by
  intro i x hx
  obtain ⟨b, o, k, n, s, A1, m, c, A2, m', c', e, c0, c1, c2, c3, c4, hv⟩ := h i x hx
  have kk : ∀ {p v}, w.cell? p = some v → w'.cell? p = some v := fun {p v} h => (hb.cell (World.block_lt_of_cell? w p h)).trans h
  exact ⟨b, o, k, n, s, A1, m, c, A2, m', c', e, kk c0, kk c1, kk c2, kk c3, kk c4, hv.later hb⟩
theorem ElsAt.grownR {w w' : World} {rb : Nat} {x : Value} {t : TypeId} {fz : Nat × Nat} {A : Option Addr} {l : List Va} (hh : w.heap[rb]? = some (.cells #[x] t fz)) (hx : ∀ s, x ≠ .string s) (h : ElsAt w A l) (hg : w.grownBy w' (some rb)) : ElsAt w' A l := by
  intro i V hV
  obtain ⟨b, o, k, n, s, A1, m, c, A2, m', c', e, c0, c1, c2, c3, c4, hv⟩ := h i V hV
  have hne : b ≠ rb := by
    intro e
    subst e
    rw [cell_of_row w b _ _ t fz hh] at c1
    simp at c1
  have hr : some b ≠ some rb := fun e => hne (by simpa using e)
  exact ⟨b, o, k, n, s, A1, m, c, A2, m', c', e, hg.cell c0 hr, hg.cell c1 hr, hg.cell c2 hr, hg.cell c3 hr, hg.cell c4 hr, hv.grownR hh hx hg⟩
theorem ElsAt.tail {w : World} {b o : Nat} {V : Va} {L : List Va} (h : ElsAt w (some ⟨b, o, none⟩) (V :: L)) : ElsAt w (some ⟨b, o + 5, none⟩) L := by
  intro i x hx
  obtain ⟨b', o', k, n, s, A1, m, c, A2, m', c', e, r⟩ := h (i + 1) x (by simpa using hx)
  injection e with e
  injection e with e1 e2
  subst e1 e2
  refine ⟨b, o + 5, k, n, s, A1, m, c, A2, m', c', rfl, ?_⟩
  rw [show o + 5 + i * 5 = o + (i + 1) * 5 by omega]
  exact r
theorem ElsAt.nil {w : World} {A : Option Addr} : ElsAt w A [] := fun i x hx => by simp at hx
theorem RdV.below {w w' : World} {rb : Nat} {L : List Va} (h : RdV w rb L) (hb : Below w.heap.size w w') : RdV w' rb L := by
  obtain ⟨A, c, h1, h2, h3, h4, h5⟩ := h
  exact ⟨A, c, h1, h2, h3, (hb.block rb (lt_of_block h4)).trans h4, h5.below hb⟩
/-- what is handed back, and what is left -/
def nextF : List Va → Va × List Va
  | [] => (zeroVa, [])
  | V :: L => (V, L)
def NextR (rb : Nat) (L : List Va) (w : World) (e : Ending) (w' : World) : Prop :=
  ∃ v, e = .returned v ∧ VAt w' (nextF L).1 v ∧ RdV w' rb (nextF L).2 ∧ w.grownBy w' (some rb)
theorem next_nil (w : World) (rb : Nat) (h : RdV w rb []) : Calls Tryz.prog 167 #[.pointer (some ⟨rb, 0, none⟩)] w (NextR rb [] w) := by
  have HK := hide h
  obtain ⟨A, c, _, _, _, hh, _⟩ := h
  have hc : w.cell? ⟨rb, 0, none⟩ = some (.slice A 0 c) := cell_of_one hh
  have hf : w.frozen? ⟨rb, 0, none⟩ = false := free_of_one hh
  have hlt : rb < w.heap.size := lt_of_block hh
  clear hh
  go_enter Tryz.func167, Tryz.ntmps167
  go_wp2_with fail
  exact bodyPost_ret (v := zeroV) (by simp [results, Tryz.results167, go_sem]) rfl ⟨_, rfl, VAt.zero _, (unhide HK).below (by go_grown), belowGrown rb (by go_grown)⟩
theorem below_two (W : World) (o1 o2 : Obj) : Below W.heap.size W ((W.alloc o1).alloc o2) :=
  thenB ((Below.refl _ W).alloc (Nat.le_refl _) o1) ((Below.refl _ (W.alloc o1)).alloc (Nat.le_refl _) o2)
def NextC (w : World) (rb b o M : Nat) (x : Value) (e : Ending) (w' : World) : Prop := ∃ o' c', e = .returned x ∧ (1 < M → o' = o + 5) ∧ M - 1 ≤ c' ∧ Below w.heap.size (w.setCell ⟨rb, 0, none⟩ (.slice (some ⟨b, o', none⟩) (M - 1) c')) w'
set_option maxRecDepth 100000 in
set_option maxHeartbeats 2000000 in
theorem next_cell (w : World) (rb b o M c : Nat) (hm : M ≤ 140737488351232) (hmc : M ≤ c) (hk1 : (1 : Int) ≤ (M : Int)) (hc : w.cell? ⟨rb, 0, none⟩ = some (.slice (some ⟨b, o, none⟩) M c)) (hf : w.frozen? ⟨rb, 0, none⟩ = false)
    (k n : Int) (s : ByteArray) (A1 : Option Addr) (m1 c1 : Nat) (A2 : Option Addr) (m2 c2 : Nat)
    (d0 : w.cell? ⟨b, o, none⟩ = some (.int .i64 k)) (d1 : w.cell? ⟨b, o + 1, none⟩ = some (.int .i64 n)) (d2 : w.cell? ⟨b, o + 2, none⟩ = some (.string s))
    (d3 : w.cell? ⟨b, o + 3, none⟩ = some (.slice A1 m1 c1)) (d4 : w.cell? ⟨b, o + 4, none⟩ = some (.slice A2 m2 c2)) :
    Calls Tryz.prog 167 #[.pointer (some ⟨rb, 0, none⟩)] w (NextC w rb b o M (vaV k n s A1 m1 c1 A2 m2 c2)) := by
  have b1 : ((M : Int) == 0) = false := by simp; omega
  have hm0 : (0 : Int) ≤ (M : Int) := Int.natCast_nonneg _
  have hmm : (M : Int) ≤ (c : Int) := by omega
  have hlt : rb < w.heap.size := World.block_lt_of_cell? w _ hc
  have hbw : b < w.heap.size := World.block_lt_of_cell? w _ d0
  have hsz : ∀ v, (w.setCell ⟨rb, 0, none⟩ v).heap.size = w.heap.size := fun v => by simp [World.setCell]
  have HSZ := hide hsz
  clear hsz
  go_enter Tryz.func167, Tryz.ntmps167
  go_wp2_with fail
  all_goals first
    | exact bodyPost_ret (v := vaV k n s A1 m1 c1 A2 m2 c2) (by simp [results, Tryz.results167, go_sem]) rfl ⟨o + 5, c - 1, rfl, fun _ => rfl, by omega, by have := below_two (w.setCell ⟨rb, 0, none⟩ (.slice (some ⟨b, o + 5, none⟩) (M - 1) (c - 1))); rw [unhide HSZ] at this; exact this _ _⟩
    | exact bodyPost_ret (v := vaV k n s A1 m1 c1 A2 m2 c2) (by simp [results, Tryz.results167, go_sem]) rfl ⟨o, 0, rfl, fun _ => by omega, by omega, by have := below_two (w.setCell ⟨rb, 0, none⟩ (.slice (some ⟨b, o, none⟩) (M - 1) 0)); rw [unhide HSZ] at this; exact this _ _⟩
theorem grownSetR {w : World} {rb : Nat} (v : Value) : w.grownBy (w.setCell ⟨rb, 0, none⟩ v) (some rb) :=
  ⟨rfl, rfl, rfl, by simp [World.setCell], fun k hk hne => Below.heap_setCell _ _ _ _ (fun e => hne (by rw [e]))⟩
theorem grown_then {w w1 w2 : World} {rb : Nat} (h : w.grownBy w1 (some rb)) (hb : Below w1.heap.size w1 w2) : w.grownBy w2 (some rb) := h.trans (belowGrown rb hb)
theorem next_any (w : World) (rb : Nat) (L : List Va) (h : RdV w rb L) : Calls Tryz.prog 167 #[.pointer (some ⟨rb, 0, none⟩)] w (NextR rb L w) := by
  cases L with
  | nil => exact next_nil w rb h
  | cons V L =>
    obtain ⟨A, c, hA, hlc, hl, hh, hE⟩ := h
    obtain ⟨b, o, rfl, hbw, hrow⟩ := hE.row (by simp)
    obtain ⟨k, n, s, A1, m1, c1, A2, m2, c2, d0, d1, d2, d3, d4, hv⟩ := hrow 0 V rfl
    simp only [Nat.zero_mul, Nat.add_zero] at d0 d1 d2 d3 d4
    refine (next_cell w rb b o (V :: L).length c hl hlc (by simp; omega) (cell_of_one hh) (free_of_one hh) k n s A1 m1 c1 A2 m2 c2 d0 d1 d2 d3 d4).mono ?_
    rintro e w' ⟨o', c', rfl, ho, hc', hb⟩
    obtain ⟨W, hW⟩ : ∃ W, W = w.setCell ⟨rb, 0, none⟩ (.slice (some ⟨b, o', none⟩) ((V :: L).length - 1) c') := ⟨_, rfl⟩
    have hg : w.grownBy W (some rb) := hW ▸ grownSetR _
    have hsz : W.heap.size = w.heap.size := by rw [hW]; simp [World.setCell]
    rw [← hW, ← hsz] at hb
    have hv' := (hv.grownR hh (fun s => by simp) hg).later hb
    have hE' := hE.grownR hh (fun s => by simp) hg
    refine ⟨_, rfl, hv', RdV.below ?_ hb, grown_then hg hb⟩
    have hh' : W.heap[rb]? = some (.cells #[.slice (some ⟨b, o', none⟩) ((V :: L).length - 1) c'] 124 (0, 0)) := by rw [hW]; exact one_setCell hh
    simp only [List.length_cons, Nat.add_sub_cancel] at hh' hc' hl
    show RdV W rb L
    refine ⟨some ⟨b, o', none⟩, c', fun e => (by cases e), hc', by omega, hh', ?_⟩
    cases L with
    | nil => exact ElsAt.nil
    | cons V' L' => rw [ho (by simp)]; exact hE'.tail

def numF (V : Va) : Int := match V with | .mk _ n _ _ _ => n
def NumR (rb : Nat) (L : List Va) (w : World) (e : Ending) (w' : World) : Prop :=
  e = .returned (.int .i64 (numF (nextF L).1)) ∧ I64 (numF (nextF L).1) ∧ RdV w' rb (nextF L).2 ∧ w.grownBy w' (some rb)
theorem field1 (x0 x1 x2 x3 x4 : Value) (w : World) : (Instr.field 66 (.agg #[x0, x1, x2, x3, x4]) 1).run Tryz.prog w = .ok x1 w := by kernel_rfl
theorem field3 (x0 x1 x2 x3 x4 : Value) (w : World) : (Instr.field 66 (.agg #[x0, x1, x2, x3, x4]) 3).run Tryz.prog w = .ok x3 w := by kernel_rfl
set_option maxRecDepth 100000 in
theorem rnumber_any (w : World) (rb : Nat) (L : List Va) (h : RdV w rb L) : Calls Tryz.prog 165 #[.pointer (some ⟨rb, 0, none⟩)] w (NumR rb L w) := by
  have HN := hide (next_any w rb L h)
  have hf1 := field1
  clear h
  go_enter Tryz.func165, Tryz.ntmps165
  go_wp2_with fail
  refine (unhide HN).mono ?_; rintro e w1 ⟨v, rfl, hv, hr, hg⟩
  obtain ⟨k, n, s, l, ks, A, c, A', c', hV, rfl, _, hn, _⟩ := hv.open
  have hN : numF (nextF L).1 = n := by rw [hV]; rfl
  have HR := hide hr; have HG := hide hg; have HNN := hide hN
  clear hr hg hV hN hv
  unfold vaV
  go_wp2_with fail
  go_ret
  exact ⟨by rw [unhide HNN]; rfl, by rw [unhide HNN]; exact hn, unhide HR, unhide HG⟩
end Go.Proofs.YtdmaopfaeigelaaGreatDoor
namespace Go.Proofs.YtdmaopfaeigelaaGreatDoor
set_option linter.unusedSimpArgs false
set_option linter.unusedVariables false
open Go.RowKit

theorem wpChain_vbuild {P : Program} {ops : Array Oper} {l' : List Oper} {o : Oper} {a : Act} {w : World} {Q : Exit → Act → World → Prop} {S : World → Prop} (hgd : o.guard = none) (t : TypeId) (parts : Array (Nat × Operand)) (ho : o.op = .build t parts) (cells : Array Value)
    (h0 : P.built t (parts.map fun p => (p.1, a.eval p.2)).toList = some cells) (hS : S w) (h : wpChain P ops Q S l' (a.put o.dst (.agg cells)) w) : wpChain P ops Q S (o :: l') a w := by
  refine wpChain_step hgd fun K' hK' => ?_
  have hr := run_build (P := P) w t _ cells h0
  unfold Oper.wp
  simp [execOp, ho, hr, Result.andThen]
  exact hK' _ _ hS h
def SC (bx rb : Nat) (V : World) : Prop := V.cell? ⟨bx, 0, none⟩ = some (.pointer (some ⟨rb, 0, none⟩))
def Built (fb rb : Nat) (cs : List Value) (w : World) (e : Ending) (w' : World) : Prop := e = .returned (.tuple #[]) ∧ VsAt w' fb 45 cs ∧ ∀ B, B ≤ rb → B ≤ fb → B ≤ w.heap.size → Below B w w'
set_option maxRecDepth 100000 in
set_option maxHeartbeats 2000000 in
theorem build6_any (bx rb fb : Nat) (L : List Va) (cs : List Value) (w : World) (hbx : w.cell? ⟨bx, 0, none⟩ = some (.pointer (some ⟨rb, 0, none⟩))) (hne : bx ≠ rb) (hfr : fb ≠ rb) (hbf : bx ≠ fb) (hr : RdV w rb L) (hf : VsAt w fb 45 cs) (hl : cs.length = 82) :
    Calls Tryz.prog 175 #[.pointer (some ⟨fb, 0, none⟩), .pointer (some ⟨bx, 0, none⟩)] w (Built fb rb (spliceV cs [.int .i64 (numF (nextF L).1), .int .i64 (numF (nextF (nextF L).2).1)] 45) w) := by
  have HBX := hide hbx; have HR := hide hr; have HF := hide hf; have HL := hide hl
  have hbr : some bx ≠ some rb := fun e => hne (Option.some.inj e)
  have hfb : some fb ≠ some rb := fun e => hfr (Option.some.inj e)
  have hbb : some bx ≠ some fb := fun e => hbf (Option.some.inj e)
  have HBR := hide hbr; have HFB := hide hfb; have HBB := hide hbb
  clear hbx hr hf hl hne hfr hbr hfb hbf hbb
  go_enter Tryz.func175, Tryz.ntmps175
  obtain ⟨W, hW⟩ : ∃ W, W = w.drewN 1 := ⟨_, rfl⟩
  have HW : Hid (W = w.drewN 1) := hW
  have HG0 : Hid (w.grownBy W (some rb)) := belowGrown rb (below_named HW)
  have hS : SC bx rb W := World.grownBy.cell (unhide HG0) (unhide HBX) (unhide HBR)
  clear hW
  refine held (S := SC bx rb) W HW (by kernel_rfl) ?_
  refine wpAnyH_take (i := 0) (v := ?_) rfl (by kernel_rfl) (by kernel_rfl) (by kernel_rfl) (fun _ _ _ h => h) (Or.inl ⟨by kernel_rfl, ?_⟩) (by assumption) ?_
  rotate_left
  · intro Wt hSt
    go_simp
    try with_reducible rfl
  try simp only [List.getElem_toArray, List.getElem_cons_zero, List.getElem_cons_succ, Act.put, List.setIfInBounds_toArray, List.set_cons_zero, List.set_cons_succ]
  refine wpAnyH_take (i := 1) (v := ?_) rfl (by kernel_rfl) (by kernel_rfl) (by kernel_rfl) (fun _ _ _ h => h) (Or.inl ⟨by kernel_rfl, ?_⟩) (by assumption) ?_
  rotate_left
  · intro Wt hSt
    have hct := (show Wt.cell? ⟨bx, 0, none⟩ = some (.pointer (some ⟨rb, 0, none⟩)) from hSt)
    go_simp
    try with_reducible rfl
  try simp only [List.getElem_toArray, List.getElem_cons_zero, List.getElem_cons_succ, Act.put, List.setIfInBounds_toArray, List.set_cons_zero, List.set_cons_succ]
  refine wpAnyH_take (i := 3) (v := ?_) rfl (by kernel_rfl) (by kernel_rfl) (by kernel_rfl) (fun _ _ _ h => h) (Or.inl ⟨by kernel_rfl, ?_⟩) (by assumption) ?_
  rotate_left
  · intro Wt hSt
    have hct := (show Wt.cell? ⟨bx, 0, none⟩ = some (.pointer (some ⟨rb, 0, none⟩)) from hSt)
    go_simp
    try with_reducible rfl
  try simp only [List.getElem_toArray, List.getElem_cons_zero, List.getElem_cons_succ, Act.put, List.setIfInBounds_toArray, List.set_cons_zero, List.set_cons_succ]
  refine wpAnyH_one 2 _ rfl (by kernel_rfl) (by kernel_rfl) ?_
  intro Kt hK
  go_simp
  refine (rnumber_any W rb L ((unhide HR).below (below_named HW))).mono ?_; rintro x V1 ⟨rfl, hi1, hr1, hg1⟩
  dsimp only
  have hS1 : SC bx rb V1 := World.grownBy.cell hg1 hS (unhide HBR)
  refine hK _ _ hS1 ?_
  clear hK Kt
  try simp only [List.getElem_toArray, List.getElem_cons_zero, List.getElem_cons_succ, Act.put, List.setIfInBounds_toArray, List.set_cons_zero, List.set_cons_succ]
  refine wpAnyH_one 4 _ rfl (by kernel_rfl) (by kernel_rfl) ?_
  intro Kt hK
  go_simp
  refine (rnumber_any V1 rb _ hr1).mono ?_; rintro x V2 ⟨rfl, hi2, hr2, hg2⟩
  dsimp only
  have hS2 : SC bx rb V2 := World.grownBy.cell hg2 hS1 (unhide HBR)
  have HG2 := hide (World.grownBy.trans (World.grownBy.trans (unhide HG0) hg1) hg2)
  refine hK _ _ hS2 ?_
  clear hK Kt
  try simp only [List.getElem_toArray, List.getElem_cons_zero, List.getElem_cons_succ, Act.put, List.setIfInBounds_toArray, List.set_cons_zero, List.set_cons_succ]
  refine wpAnyH_chainOf [5, 6, 7, 8] _ _ _ (by kernel_rfl) (by kernel_rfl) ?_
  simp only [List.filterMap_cons, List.filterMap_nil, List.getElem?_toArray, List.getElem?_cons_zero, List.getElem?_cons_succ]
  refine wpChain_vbuild rfl 39 _ rfl #[.int .i64 (numF (nextF L).1), .int .i64 (numF (nextF (nextF L).2).1)] (by kernel_rfl) hS2 ?_
  try simp only [List.getElem_toArray, List.getElem_cons_zero, List.getElem_cons_succ, Act.put, List.setIfInBounds_toArray, List.set_cons_zero, List.set_cons_succ]
  refine wpChain_step rfl fun Kt hKt => ?_
  go_simp
  refine hKt _ _ hS2 ?_
  clear hKt Kt
  refine wpChain_step rfl fun Kt hKt => ?_
  go_simp
  refine hKt _ _ hS2 ?_
  clear hKt Kt
  refine wpChain_vput rfl 39 (.tmp 10) (.tmp 8) rfl fb 45 rfl [.int .i64 (numF (nextF L).1), .int .i64 (numF (nextF (nextF L).2).1)] rfl infoMv (by intro v hv; simp at hv; rcases hv with rfl | rfl <;> rfl) 45 cs (VsAt.grown (unhide HF) (unhide HG2) (fun e => unhide HFB e.symm)) (by rw [unhide HL]; simp) ?_
  intro V9 HV9 HG9
  refine ⟨World.grownBy.cell (unhide HG9) hS2 (unhide HBB), ?_⟩
  refine wpChain_nil ?_
  go_end0
  refine ⟨rfl, unhide HV9, fun B h1 h2 h3 => ?_⟩
  have hb2 : Below B w V2 := (Below.refl B w).grown (unhide HG2) h3 (fun i e => by injection e with e; omega)
  exact hb2.grown (unhide HG9) (Nat.le_trans h3 hb2.size) (fun i e => by injection e with e; omega)
end Go.Proofs.YtdmaopfaeigelaaGreatDoor
