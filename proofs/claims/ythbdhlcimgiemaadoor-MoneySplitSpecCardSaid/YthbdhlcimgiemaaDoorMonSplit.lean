/- Contracts over the program of money: Split. -/
import Derived.Test.YthbdhlcimgiemaaDoorMonParts
namespace Go.Proofs.YthbdhlcimgiemaaDoor
set_option linter.unusedSimpArgs false
set_option linter.unusedVariables false
open Go.RowKit Go.Shelf
attribute [local go_sem] Oper.semAt_some

theorem parts_make (a : Int) (v : Value) (hv : ∃ A n c, v = .slice A n c) (w : World) :
    Calls Tryd.prog 26 #[.int .i64 a, v] w fun e w' => e = .returned (.func (.func 33) #[] #[.pointer (some ⟨w.heap.size + 1, 0, none⟩), .pointer (some ⟨w.heap.size, 0, none⟩)]) ∧ w' = (w.alloc (.cells #[.int .i64 a] 3)).alloc (.cells #[v] 22) := by
  obtain ⟨A, n, c, rfl⟩ := hv
  go_enter Tryd.func26, Tryd.ntmps26
  go_wp2
  go_ret
  exact ⟨rfl, rfl⟩

theorem parts_stops (nf : Nat) (hnf : 1 ≤ nf) (Bw Ba : Nat) (A : Option Addr) (c : Nat) (a : Int) (ws : List Int) (w : World) (hw : w.cell? ⟨Bw, 0, none⟩ = some (.slice A ws.length c)) (ha : w.cell? ⟨Ba, 0, none⟩ = some (.int .i64 a)) (hI : It w A ws) (hW : Wok ws) (h0 : 0 ≤ a) (h1 : a ≤ 1125899906842624) :
    SeqStopsK Fence.wide nf Tryd.prog 33 #[.pointer (some ⟨Bw, 0, none⟩), .pointer (some ⟨Ba, 0, none⟩)] (fun x : Int => #[Value.int .i64 x]) KeepArr (fun ys => ys = splitP a ws) (fun pre => pre <+: splitP a ws) ws.length w := fun L J Jx W hWb hJ hJx hY hJ0 =>
  (parts_in nf hnf L Bw Ba A c a ws J Jx W ((hWb.cell (p := ⟨Bw, 0, none⟩) (lt_of_cell hw)).trans hw) ((hWb.cell (p := ⟨Ba, 0, none⟩) (lt_of_cell ha)).trans ha) (hI.keep hWb) hW h0 h1 hJ hY hJ0).mono fun e W' h => h

/-- a number in the bounds of an int -/
def wr64 (x : Int) : Int := IntKind.i64.wrap x
theorem wr64_in {x : Int} (h : -9223372036854775808 ≤ x) (h2 : x ≤ 9223372036854775807) : wr64 x = x := IntWalk.i64_in _ (by omega)
theorem infoInt : (Tryd.prog.info? 3).map (fun i => (i.zero, i.size, i.bytes)) = some (some (.int .i64 0), 1, 8) := by kernel_rfl

theorem keepArr_body {W w1 : World} {n₀ B : Nat} {v u : Value} {k : Nat} {xs : List Value} {tmp : Obj} (hv : Boxed W B 22 v) (hrow : W.ownsRow n₀ 3 1 v k xs) (hg : (W.alloc tmp).grownBy w1 v.ownBlock) : KeepArr W (w1.setCell ⟨B, 0, none⟩ u) := by
  refine ⟨?_, fun q o hq ho => ?_⟩
  · have := hg.size
    simp at this ⊢
    omega
  · have hql := (Array.getElem?_eq_some_iff.1 hq).1
    have hB : q ≠ B := fun e => by
      subst e
      rw [show W.heap[q]? = _ from hv] at hq
      cases hq
      exact absurd ho (by simp [isArr])
    rw [Below.heap_setCell _ _ _ _ (by show q ≠ B; exact hB), hg.block q (by simp; omega) (fun e => ?_), Below.heap_alloc _ _ _ hql, hq]
    rcases hrow.2 with ⟨rfl, _⟩ | ⟨g, cap, cur, rfl, _, hgb, _⟩
    · cases e
    · obtain rfl : q = g := by simpa [Value.ownBlock] using e
      rw [hgb] at hq
      cases hq
      exact absurd ho (by simp [isArr])

theorem ownLe {w : World} {base base' : Nat} {e : TypeId} {size : Nat} {v : Value} {n : Nat} {xs : List Value} (h : w.ownsRow base e size v n xs) (hb : base' ≤ base) : w.ownsRow base' e size v n xs :=
  ⟨h.1, h.2.imp id fun ⟨g, cap, cur, e, hg, r⟩ => ⟨g, cap, cur, e, Nat.le_trans hb hg, r⟩⟩
theorem ownSlice {w : World} {base : Nat} {e : TypeId} {size : Nat} {v : Value} {n : Nat} {xs : List Value} (h : w.ownsRow base e size v n xs) : ∃ A c, v = .slice A n c := by
  rcases h.2 with ⟨rfl, h0⟩ | ⟨g, cap, cur, rfl, _⟩
  · exact ⟨none, 0, by rw [h0]⟩
  · exact ⟨_, _, rfl⟩
theorem keepArr_b {w : World} (W : World) (l : Nat) (o o' : Obj) (_ : w.heap.size ≤ l) (h : W.heap[l]? = some o) (hc : o.isCells = false) (_ : o.isWalk = false) : KeepArr W (W.putObj l o') := by
  have hg := grownBy_putObj' W l o'
  refine ⟨hg.size, fun k u hk hu => ?_⟩
  rw [hg.block k (Array.getElem?_eq_some_iff.1 hk).1 (fun e => ?_), hk]
  injection e with e
  subst e
  rw [h] at hk
  cases hk
  unfold isArr at hu
  split at hu
  · cases hc
  · cases hu
def absI (a : Int) : Int := if a < 0 then -a else a
def sgn (a : Int) : Int := if a < 0 then -1 else 1
/-- what Split returns -/
def splitV (a : Int) (ws : List Int) : List Int := if Am a then (if Wok ws then (splitP (absI a) ws).map fun x => wr64 (sgn a * x) else []) else []
def splitE (a : Int) (ws : List Int) : Int := if Am a then (if Wok ws then 0 else 1) else 50
/-- a row of the call's own that holds numbers -/
def OwnI (w : World) (B : Nat) (v : Value) (l : List Int) : Prop := w.ownsRow B 3 1 v l.length (l.map (Value.int .i64))
def SplitIs (a : Int) (ws : List Int) (w : World) (e : Ending) (w' : World) : Prop :=
  ∃ v, e = .returned (.tuple #[v, .int .i64 (splitE a ws)]) ∧ OwnI w' w.heap.size v (splitV a ws) ∧ Below w.heap.size w w'

set_option maxHeartbeats 1000000 in
theorem split_no (A : Option Addr) (c : Nat) (a : Int) (ws : List Int) (w : World) (h : ¬ Am a) :
    Calls Tryd.prog 15 #[.int .i64 a, .slice A ws.length c] w (SplitIs a ws w) := by
  have e1 : splitV a ws = [] := by unfold splitV; rw [if_neg h]
  have e2 : splitE a ws = 50 := by unfold splitE; rw [if_neg h]
  unfold SplitIs
  rw [e1, e2]
  generalize ws.length = n
  go_enter Tryd.func15, Tryd.ntmps15
  go_wp2_with fail
  refine (check_no a _ h).mono ?_; rintro e w' ⟨rfl, rfl⟩
  go_wp2_with fail
  refine bodyPost_ret (v := .tuple #[.slice none 0 0, .int .i64 50]) (by simp [results, Tryd.results15, go_sem]) rfl ⟨_, rfl, World.ownsRow_nil _ _ _ _, ?_⟩
  exact (Below.refl _ _).alloc (Nat.le_refl _) _
set_option maxHeartbeats 1000000 in
theorem split_bad (A : Option Addr) (c : Nat) (a : Int) (ws : List Int) (w : World) (h : Am a) (hI : It w A ws) (hW : ¬ Wok ws) (hl : ws.length ≤ 1000000) :
    Calls Tryd.prog 15 #[.int .i64 a, .slice A ws.length c] w (SplitIs a ws w) := by
  have e1 : splitV a ws = [] := by unfold splitV; rw [if_pos h, if_neg hW]
  have e2 : splitE a ws = 1 := by unfold splitE; rw [if_pos h, if_neg hW]
  unfold SplitIs
  rw [e1, e2]
  have hwn := weights_no A c ws (w.alloc (.cells #[.slice none 0 0] 22)) (hI.keep ((Below.refl _ _).alloc (Nat.le_refl _) _)) hW hl
  generalize ws.length = n at *
  have HW := hide hwn
  clear hwn hI hW
  go_enter Tryd.func15, Tryd.ntmps15
  go_wp2_with fail
  refine (check_ok a _ h).mono ?_; rintro e w' ⟨rfl, rfl⟩
  go_wp2_with fail
  refine (unhide HW).mono ?_; rintro e w' ⟨rfl, rfl⟩
  go_wp2_with fail
  refine bodyPost_ret (v := .tuple #[.slice none 0 0, .int .i64 1]) (by simp [results, Tryd.results15, go_sem]) rfl ⟨_, rfl, World.ownsRow_nil _ _ _ _, ?_⟩
  exact (Below.refl _ _).alloc (Nat.le_refl _) _

def rowsV (sg : Int) (l : List Int) : List Value := (l.map fun x => wr64 (sg * x)).map (Value.int .i64)
theorem rowsV_snoc (sg x : Int) (l : List Int) : rowsV sg (l ++ [x]) = rowsV sg l ++ [.int .i64 (wr64 (sg * x))] := by simp [rowsV]
def AnyV (_ : List Int) (_ : Value) : Prop := True
theorem wr_fold (x : Int) : IntKind.i64.wrap x = wr64 x := rfl
set_option maxRecDepth 100000 in
set_option maxHeartbeats 4000000 in
theorem split_ok (A : Option Addr) (c : Nat) (a : Int) (ws : List Int) (w : World) (h : Am a) (hI : It w A ws) (hW : Wok ws) :
    Calls Tryd.prog 15 #[.int .i64 a, .slice A ws.length c] w (SplitIs a ws w) := by
  have e1 : splitV a ws = (splitP (absI a) ws).map fun x => wr64 (sgn a * x) := by unfold splitV; rw [if_pos h, if_pos hW]
  have e2 : splitE a ws = 0 := by unfold splitE; rw [if_pos h, if_pos hW]
  unfold SplitIs
  rw [e1, e2]
  clear e1 e2
  have hb : 0 ≤ absI a ∧ absI a ≤ 1125899906842624 := by obtain ⟨h1, h2⟩ := h; unfold absI; split <;> omega
  have hmul : IntKind.i64.wrap (sgn a * a) = absI a := by
    have e : sgn a * a = absI a := by unfold sgn absI; split <;> omega
    rw [e]
    exact IntWalk.i64_in _ (by omega)
  have hs : sgn a = 1 ∨ sgn a = -1 := by unfold sgn; split <;> simp
  have hsign : ∀ W, Calls Tryd.prog 25 #[.int .i64 a] W fun e w' => e = .returned (.int .i64 (sgn a)) ∧ w' = W := fun W => by
    unfold sgn
    by_cases hn : a < 0
    · rw [if_pos hn]; exact sign_neg a W hn
    · rw [if_neg hn]; exact sign_pos a W (by omega)
  obtain ⟨P, hP⟩ : ∃ P, P = absI a := ⟨_, rfl⟩
  rw [← hP] at hb hmul ⊢
  obtain ⟨sg, hsg⟩ : ∃ sg, sg = sgn a := ⟨_, rfl⟩
  rw [← hsg] at hmul hs hsign ⊢
  obtain ⟨n, hn⟩ : ∃ n, n = ws.length := ⟨_, rfl⟩
  have hn256 : n ≤ 256 := by have := hW.2.1; omega
  have hwt := fun W (hB : Below w.heap.size w W) => weights_ok A c ws W (hI.keep hB) hW
  have hst := fun W (hB : Below w.heap.size w W) (Bw Ba : Nat) (h1 : W.cell? ⟨Bw, 0, none⟩ = some (.slice A ws.length c)) (h2 : W.cell? ⟨Ba, 0, none⟩ = some (.int .i64 P)) => parts_stops 4 (by omega) Bw Ba A c P ws W h1 h2 (hI.keep hB) hW hb.1 hb.2
  have hlen : (splitP P ws).length = n := by rw [splitP_len, hn]
  rw [← hn] at hwt hst ⊢
  have HWT := hide hwt
  have HST := hide hst
  have HSG := hide hsign
  have HP := hide hP
  have HB := hide hb
  have HLEN := hide hlen
  obtain ⟨i0, hi, hz0, hz1, hz2⟩ := info_parts infoInt
  clear hwt hst hsign hP hsg hn hI hW hb hlen hs
  refine (callsIn_wide (n := 5)).1 ?_
  refine callsIn_of_wp_marks Tryd.func15 rfl trivial ?_ rfl
  simp only [Tryd.ntmps15, List.size_toArray, List.length_cons, List.length_nil, Nat.reduceAdd, Nat.reduceSub, Array.replicate_succ, Array.replicate_zero, List.push_toArray, List.append_toArray, List.nil_append, List.cons_append]
  gi_wp2_with fail
  refine ⟨trivial, callsIn_wide.2 ((check_ok a _ h).mono ?_)⟩; rintro e w' ⟨rfl, rfl⟩
  gi_wp2_with fail
  refine ⟨trivial, callsIn_wide.2 (((unhide HWT) _ ((Below.refl _ _).alloc (Nat.le_refl _) _)).mono ?_)⟩; rintro e w' ⟨rfl, rfl⟩
  gi_wp2_with fail
  refine ⟨trivial, callsIn_wide.2 (((unhide HSG) _).mono ?_)⟩; rintro e w' ⟨rfl, rfl⟩
  gi_wp2_with fail
  refine ⟨trivial, callsIn_wide.2 ((parts_make P _ ⟨A, n, c, rfl⟩ _).mono ?_)⟩; rintro e w' ⟨rfl, rfl⟩
  gi_wp2_with fail
  have bL := (((Boxed.new w 22 (.slice none 0 0)).alloc (.cells #[.int .i64 sg] 3)).alloc (.cells #[.int .i64 P] 3)).alloc (.cells #[.slice A n c] 22)
  have bS := ((Boxed.new (w.alloc (.cells #[.slice none 0 0] 22)) 3 (.int .i64 sg)).alloc (.cells #[.int .i64 P] 3)).alloc (.cells #[.slice A n c] 22)
  have bA := (Boxed.new ((w.alloc (.cells #[.slice none 0 0] 22)).alloc (.cells #[.int .i64 sg] 3)) 3 (.int .i64 P)).alloc (.cells #[.slice A n c] 22)
  have bW := Boxed.new (((w.alloc (.cells #[.slice none 0 0] 22)).alloc (.cells #[.int .i64 sg] 3)).alloc (.cells #[.int .i64 P] 3)) 22 (.slice A n c)
  rw [World.size_alloc] at bS
  rw [World.size_alloc, World.size_alloc] at bA
  rw [World.size_alloc, World.size_alloc, World.size_alloc] at bW
  generalize hX : World.alloc _ _ = W0 at *
  have hsz : W0.heap.size = w.heap.size + 4 := by rw [← hX]; simp
  have hB0 : Below w.heap.size w W0 := by
    rw [← hX]
    exact ((((Below.refl _ _).alloc (Nat.le_refl _) _).alloc (by simp) _).alloc (by simp; omega) _).alloc (by simp; omega) _
  have hw0 : Hid (w.heap.size = w.heap.size) := rfl
  clear hX
  refine wpIn_rangeFunc_ownG rfl (by omega) (gf := 33) (lb := #[.pointer (some ⟨w.heap.size + 1 + 1 + 1, 0, none⟩), .pointer (some ⟨w.heap.size + 1 + 1, 0, none⟩)]) rfl trivial (enters_of Tryd.func33 (by kernel_rfl) rfl)
    ((unhide HST) W0 hB0 _ _ bW.cell bA.cell) keepArr_t keepArr_b (Below.refl _ _) (fun _ => rfl)
    (fun (pre : List Int) W => (∃ v, Boxed W w.heap.size 22 v ∧ W.ownsRow (w.heap.size + 4) 3 1 v pre.length (rowsV sg pre) ∧ AnyV pre v) ∧ (Boxed W (w.heap.size + 1) 3 (.int .i64 sg) ∧ Below w.heap.size W0 W))
    (fun _ _ _ => False)
    (OwnFrom.and (Own.from (holdsRow_own (w.heap.size + 4) w.heap.size 22 3 1 (fun (pre : List Int) => pre.length) (rowsV sg) AnyV) _) (OwnFrom.and (Own.from (boxed_own (w.heap.size + 1) 3 (fun _ => .int .i64 sg)) _) (ownFrom_below (by omega) (by omega))))
    (fun _ _ _ _ _ hs _ _ => hs)
    ⟨⟨_, bL, World.ownsRow_nil _ _ _ _, trivial⟩, bS, Below.refl _ _⟩
    (fun x => { tmps := #[.int .i64 a, .slice A n c, undef, undef, .pointer (some ⟨w.heap.size, 0, none⟩), .int .i64 0, .pointer (some ⟨w.heap.size + 1, 0, none⟩), .int .i64 x, .int .i64 a, .int .i64 0, .int .i64 0, .bool false, undef, .slice A n c, .bool true, .bool false, .int .i64 a, .int .i64 sg, .int .i64 sg, .int .i64 a, .int .i64 P, .slice A n c,
      .func (.func 33) #[] #[.pointer (some ⟨w.heap.size + 1 + 1 + 1, 0, none⟩), .pointer (some ⟨w.heap.size + 1 + 1, 0, none⟩)], .int .i64 x, undef, undef, undef, undef, undef, undef, undef], defers := [] }) ?assign ?body ?done ?stop
  case assign =>
    intro l x W K hK
    gi_wp2
    exact hK
  case body =>
    rintro l pre x W ⟨⟨v, hv, hrow, _⟩, hS, hB⟩ hlt
    have hc := hv.cell
    have hs := hS.cell
    have hrw := ownLe hrow (show w.heap.size ≤ w.heap.size + 4 by omega)
    have hz := hB.size
    have hzW : w.heap.size + 4 ≤ W.heap.size := by omega
    have hmap := rowsV_snoc sg x pre
    have hwf := wr_fold (sg * x)
    generalize wr64 (sg * x) = y at hmap hwf
    have HMAP := hide hmap
    have HB2 := hide hB
    have HS2 := hide hS
    have HROW := hide hrow
    have hsl := hS.lt
    clear hmap hB hS
    gi_wp2_with (gi_at_builtin; refine wpListIn_append_own _ rfl _ _ 22 rfl (w.heap.size + 4) 3 i0 (.int .i64 0) 1 8 Tryd.underlying22 hi hz0 hz1 hz2 rfl (by decide) _ _ _ rfl (hrow.alloc _) ⟨W.heap.size, 0, none⟩ 1 1 [.int .i64 y] rfl rfl (cell_one_new _ _ _) (by simp [Value.oneCell']) (by unfold maxLen; omega) (by omega) (by simp; omega) ?_; intro v' w1 hown' hgrow _; obtain ⟨g', cap', rfl⟩ := ownsRow_succ hown'; obtain ⟨hv1, hv2, hr2, hk2, hb2⟩ := hv.appended (by decide) hrw (by omega) (Nat.le_refl _) (ownLe hown' (by omega)) hgrow; have hc1 := hv1.cell; have hf1 := hv1.frozen)
    refine ⟨hk2.from _, keepArr_body hv (unhide HROW) hgrow, ⟨⟨_, hv2, ?_, trivial⟩, ?_, (unhide HB2).trans hb2⟩⟩
    · rw [unhide HMAP, List.length_append]
      exact hown'.kept (grownBy_setCell' w1 w.heap.size _) (.inr (hv1.not_row (by decide) hown').symm)
    · refine (((unhide HS2).alloc _).kept hgrow (fun e => ?_)).other (by omega) _
      have := ((unhide HROW).lt _ e.symm).1
      omega
  case done =>
    rintro D ys W hD rfl ⟨⟨v, hv, hrow, _⟩, hS, hB⟩ hK
    obtain ⟨A2, c2, rfl⟩ := ownSlice hrow
    have hc := hv.cell
    have hf := hv.frozen
    have HROW := hide hrow
    have HB2 := hide hB
    have HV := hide hv
    clear hrow hS hB hv
    gi_wp2
    have hK2 : (W.setCell ⟨w.heap.size, 0, none⟩ (.slice A2 (splitP P ws).length c2)).heap[D]? = some (.deferred (some [])) := (KeepsOthers.setCell _ _ _).same D _ hK rfl
    refine ⟨by simp, .inl ⟨_, _, rfl, run_takeDeferred hK2, ?_⟩⟩
    have hb3 := (unhide HV).set (.slice A2 (splitP P ws).length c2)
    have hc3 := cell_kept hb3.cell (grownBy_putObj' _ D (.deferred none)) (fun r e => by cases e; exact ⟨_, hK2, rfl⟩)
    refine ⟨.tuple #[.slice A2 (splitP P ws).length c2, .int .i64 0], by simp [results, Tryd.results15, go_sem, hc3], ⟨_, rfl, ?_, ?_⟩⟩
    · have h1 := (unhide HROW).kept (grownBy_setCell' W w.heap.size (.slice A2 (splitP P ws).length c2)) (.inr ((unhide HV).not_row (by decide) (unhide HROW)).symm)
      have h2 := ownLe (ownsRow_putObj h1 (.deferred none) hK2 rfl) (show w.heap.size ≤ w.heap.size + 4 by omega)
      unfold OwnI
      rw [List.length_map]
      exact h2
    · have h1 := (hB0.trans (unhide HB2)).setCell (p := ⟨w.heap.size, 0, none⟩) (Nat.le_refl _) (.slice A2 (splitP P ws).length c2)
      exact h1.trans (belowK_b (w := w) (Nat.le_refl _) _ D _ _ (by omega) hK2 rfl rfl)
  case stop =>
    rintro D c pre W _ _ h _
    exact h.elim
end Go.Proofs.YthbdhlcimgiemaaDoor
