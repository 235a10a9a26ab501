/- Contracts over the codec's program, each for all bytes: the reader's list. -/
import Derived.Test.YtdmaopfaeigelaaGreatDoorCodNTI
import Derived.Deep.LoopGhost
import Derived.Deep.RegionHeld3
import Derived.Deep.RegionWith
import Derived.Deep.AppendLies
namespace Go.Proofs.YtdmaopfaeigelaaGreatDoor
set_option linter.unusedSimpArgs false
set_option linter.unusedVariables false
open Go.RowKit

abbrev ValIs (d : Nat) : Prop := ∀ (w : World) (rb : Nat) (bs : List UInt8), RdAt w rb bs → Env w → gTop ≤ rb →
  Calls Tryz.prog 59 #[.pointer (some ⟨rb, 0, none⟩), .int .i64 (d : Int)] w (Ends rb (valP d bs) (VNew w) w)

/-- the elements that have been read, and where they lie -/
def OwnEls (wr : World) (N : Nat) (vL : Value) (acc : List Va) : Prop :=
  ∃ xs, wr.ownsRow (N + 1) 66 5 vL acc.length xs ∧ ∀ (i : Nat) (x : Va), acc[i]? = some x → ∃ k n s A1 m c A2 m' c', xs[i * 5]? = some (.int .i64 k) ∧ xs[i * 5 + 1]? = some (.int .i64 n) ∧ xs[i * 5 + 2]? = some (.string s) ∧
    xs[i * 5 + 3]? = some (.slice A1 m c) ∧ xs[i * 5 + 4]? = some (.slice A2 m' c') ∧ VIn wr (fun b => N < b ∧ b < wr.heap.size ∧ vL.ownBlock ≠ some b) x (vaV k n s A1 m c A2 m' c')
abbrev boxL (k : Int) (vL vK : Value) : Array Value := #[.int .i64 k, .int .i64 0, .string ⟨#[]⟩, vL, vK]
/-- where the loop of list stands -/
def ListAt (w : World) (rb N2 : Nat) (r : Option (List Va × List UInt8)) (d : Nat) (g : Nat) (wr : World) : Prop :=
  ∃ (bs : List UInt8) (acc : List Va) (vL : Value), bs.length < g ∧ RdAt wr rb bs ∧ elemsP (valP d) g bs acc = r ∧ wr.heap[w.heap.size]? = some (.cells zeroCells 66 (0, 0)) ∧
    wr.heap[N2]? = some (.cells (boxL 3 vL (.slice none 0 0)) 66 (0, 0)) ∧ OwnEls wr N2 vL acc ∧ w.grownBy wr (some rb) ∧ acc.length + bs.length ≤ 1000000000
theorem infoVal : (Tryz.prog.info? 66).map (fun i => (i.zero, i.size, i.bytes)) = some (some (.agg #[.int .i64 0, .int .i64 0, .string ⟨#[]⟩, .slice none 0 0, .slice none 0 0]), 5, 80) := by kernel_rfl

theorem own_in {wr : World} {N : Nat} {vL : Value} {acc : List Va} (h : OwnEls wr N vL acc) : ∃ (A : Option Addr) (c b o : Nat) (vv : Nat → Value), vL = .slice A acc.length c ∧ ((A = none → c = 0) ∧ acc.length ≤ c) ∧
    (∀ i, i < acc.length → A = some ⟨b, o, none⟩ ∧ (N < b ∧ b < wr.heap.size) ∧ Five wr b (o + i * 5) (vv i)) ∧ (∀ (i : Nat) (x : Va), acc[i]? = some x → VIn wr (fun b => N < b ∧ b < wr.heap.size) x (vv i)) := by
  obtain ⟨xs, hown, hel⟩ := h
  rcases hown.2 with ⟨rfl, h0⟩ | ⟨g, cap, cur, rfl, hB, hc, hnc, _⟩
  · have e : acc = [] := List.length_eq_zero_iff.1 h0
    subst e
    exact ⟨none, 0, 0, 0, fun _ => .bool true, rfl, ⟨fun _ => rfl, Nat.le_refl _⟩, fun i hi => by simp at hi, fun i x hx => by simp at hx⟩
  · have hlt := (Array.getElem?_eq_some_iff.1 hc).1
    refine ⟨some ⟨g, 0, none⟩, cap, g, 0, fun i => .agg #[xs.getD (i * 5) undef, xs.getD (i * 5 + 1) undef, xs.getD (i * 5 + 2) undef, xs.getD (i * 5 + 3) undef, xs.getD (i * 5 + 4) undef], rfl, ⟨(fun h => by cases h), hnc⟩, fun i hi => ?_, fun i x hx => ?_⟩
    · obtain ⟨k, n, s, A1, m, c, A2, m', c', c0, c1, c2, c3, c4, _⟩ := hel i _ (List.getElem?_eq_getElem hi)
      refine ⟨rfl, ⟨by omega, hlt⟩, _, _, _, _, _, rfl, ?_, ?_, ?_, ?_, ?_⟩ <;>
        (rw [hown.cellAt _ (by omega)]; simp only [Nat.zero_add, List.getD_eq_getElem?_getD, c0, c1, c2, c3, c4, Option.getD_some])
    · obtain ⟨k, n, s, A1, m, c, A2, m', c', c0, c1, c2, c3, c4, hv⟩ := hel i x hx
      simp only [List.getD_eq_getElem?_getD, c0, c1, c2, c3, c4, Option.getD_some]
      exact hv.keep (fun b hb => ⟨hb.1, hb.2.1⟩) fun b _ => rfl

theorem grownDrew {w w' : World} {n : Nat} {row : Option Nat} (h : (w.drewN n).grownBy w' row) : w.grownBy w' row := ⟨h.os, h.tape, h.output, h.size, h.block⟩
theorem step_append_at {P : Program} (w : World) {ops : Array Oper} {o : Oper} {a : Act} {K : Act → World → Prop} {Q : Exit → Act → World → Prop} {E : Prop} (hgd : o.guard = none) (s x : Operand) (t : TypeId)
    (ho : o.op = .call { callee := .builtin .append, args := #[s, x], argTypes := #[t, t] })
    (base : Nat) (e : TypeId) (i : TypeInfo) (z : Value) (size bytes : Nat) (ht : P.underlying t = some (.slice e)) (hi : P.info? e = some i) (hz : i.zero = some z)
    (hsize : i.size = size) (hby : i.bytes = bytes) (hzs : z.cells.size = size) (hsz : 0 < size)
    (v : Value) (n : Nat) (xs : List Value) (hs : a.eval s = v) (hown : w.ownsRow base e size v n xs)
    (ad : Addr) (m c : Nat) (news : List Value) (hx : a.eval x = .slice (some ad) m c) (hl : news.length = m * size) (hnews : ∀ j u, news[j]? = some u → w.cell? (ad.add j) = some u) (h1 : ∀ u ∈ news, u.oneCell' = true)
    (h63 : n + m ≤ maxLen) (hbytes : (n + m) * bytes ≤ 140737488355328) (hbase : base ≤ w.heap.size)
    (h : ∀ v' w', w'.ownsRow base e size v' (n + m) (xs ++ news) → w.grownBy w' v.ownBlock → (∀ k, v.ownBlock = some k → base ≤ k ∧ k < w.heap.size) → (v'.ownBlock = v.ownBlock ∨ v'.ownBlock = some w.heap.size) → K (a.put o.dst v') w') :
    if Region.wanted o (yielded ops a.tmps) = true then Oper.wp P o a w K Q else E := by
  have hw : Region.wanted o (yielded ops a.tmps) = true := by simp [Region.wanted, hgd]
  rw [if_pos hw]
  obtain ⟨v', w', hr, h2, h3, _, h5⟩ := run_append_own_at (P := P) w base t o.type e i z size bytes ht hi hz hsize hby hzs hsz v n xs hown ad m c news hl hnews h1 h63 hbytes hbase
  unfold Oper.wp execOp
  simp only [ho, resolve, invoke, builtin, Sem.run_bind, Sem.run_pure, Result.andThen_ok, List.map_toArray, List.map_cons, List.map_nil, hs, hx, hr]
  exact h v' w' h2 h3 hown.lt h5
theorem set5_block {W : World} {N b : Nat} (h : b ≠ N) (x0 x1 x2 x3 x4 : Value) :
    (((((W.setCell ⟨N, 0, none⟩ x0).setCell ⟨N, 1, none⟩ x1).setCell ⟨N, 2, none⟩ x2).setCell ⟨N, 3, none⟩ x3).setCell ⟨N, 4, none⟩ x4).heap[b]? = W.heap[b]? := by
  rw [Below.heap_setCell _ _ _ _ h, Below.heap_setCell _ _ _ _ h, Below.heap_setCell _ _ _ _ h, Below.heap_setCell _ _ _ _ h, Below.heap_setCell _ _ _ _ h]
theorem set5_size {W : World} {N : Nat} (x0 x1 x2 x3 x4 : Value) :
    (((((W.setCell ⟨N, 0, none⟩ x0).setCell ⟨N, 1, none⟩ x1).setCell ⟨N, 2, none⟩ x2).setCell ⟨N, 3, none⟩ x3).setCell ⟨N, 4, none⟩ x4).heap.size = W.heap.size := by
  simp [World.setCell]

theorem box_set {w : World} {N : Nat} {k : Int} {vL vK v : Value} {t : TypeId} (h : w.heap[N]? = some (.cells (boxL k vL vK) t (0, 0))) : (w.setCell ⟨N, 3, none⟩ v).heap[N]? = some (.cells (boxL k v vK) t (0, 0)) := by
  have hlt := lt_of_block h
  have h' : w.heap[N] = .cells (boxL k vL vK) t (0, 0) := by simpa [Array.getElem?_eq_getElem hlt] using h
  show (w.heap.modify N _)[N]? = _
  rw [Array.getElem?_eq_getElem (by simpa using hlt), Array.getElem_modify_self, h']
  rfl

theorem list_round {w wr w3 w4 : World} {rb N : Nat} {r : Option (List Va × List UInt8)} {d g : Nat} {acc : List Va} {xs : List Value} {vL v4 : Value} {x : Va} {q bs : List UInt8}
    {e1 e2 : Int} {e3 : ByteArray} {e4 : Option Addr} {e5 e6 : Nat} {e7 : Option Addr} {e8 e9 : Nat} {o : Obj}
    (hrw : rb < w.heap.size) (hwN : w.heap.size < N) (hlg : bs.length < g + 1) (hql : q.length < bs.length) (hle : acc.length + bs.length ≤ 1000000000) (hr3 : RdAt w3 rb q) (hel : elemsP (valP d) g q (acc ++ [x]) = r)
    (hz : wr.heap[w.heap.size]? = some (.cells zeroCells 66 (0, 0))) (hbox : wr.heap[N]? = some (.cells (boxL 3 vL (.slice none 0 0)) 66 (0, 0)))
    (how : wr.ownsRow (N + 1) 66 5 vL acc.length xs)
    (hels : ∀ (i : Nat) (x : Va), acc[i]? = some x → ∃ k n s A1 m c A2 m' c', xs[i * 5]? = some (.int .i64 k) ∧ xs[i * 5 + 1]? = some (.int .i64 n) ∧ xs[i * 5 + 2]? = some (.string s) ∧
      xs[i * 5 + 3]? = some (.slice A1 m c) ∧ xs[i * 5 + 4]? = some (.slice A2 m' c') ∧ VIn wr (fun b => N < b ∧ b < wr.heap.size ∧ vL.ownBlock ≠ some b) x (vaV k n s A1 m c A2 m' c'))
    (hgr : w.grownBy wr (some rb)) (hg3 : wr.grownBy w3 (some rb)) (hv : VIn w3 (fun b => wr.heap.size ≤ b ∧ b < w3.heap.size) x (vaV e1 e2 e3 e4 e5 e6 e7 e8 e9))
    (hown4 : w4.ownsRow (N + 1) 66 5 v4 (acc.length + 1) (xs ++ [.int .i64 e1, .int .i64 e2, .string e3, .slice e4 e5 e6, .slice e7 e8 e9])) (hg4 : (w3.alloc o).grownBy w4 vL.ownBlock)
    (hat4 : v4.ownBlock = vL.ownBlock ∨ v4.ownBlock = some (w3.alloc o).heap.size) : ListAt w rb N r d g (w4.setCell ⟨N, 3, none⟩ v4) := by
  have hNr := lt_of_block hbox
  have h3 := hg3.size
  have h4 : w3.heap.size < w4.heap.size := by have := hg4.size; simp at this; omega
  have hown := how.lt
  have hkeep : ∀ b, b < wr.heap.size → b ≠ rb → b ≠ N → vL.ownBlock ≠ some b → (w4.setCell ⟨N, 3, none⟩ v4).heap[b]? = wr.heap[b]? := fun b hb h1 h2 h5 => by
    rw [Below.heap_setCell _ _ _ _ h2, hg4.block b (by simp; omega) (fun e => h5 e.symm), heap_alloc_old _ _ (by omega), hg3.block b hb (by simpa using h1)]
  have hkeep3 : ∀ b, wr.heap.size ≤ b → b < w3.heap.size → (w4.setCell ⟨N, 3, none⟩ v4).heap[b]? = w3.heap[b]? := fun b hb h1 => by
    rw [Below.heap_setCell _ _ _ _ (by show b ≠ N; omega), hg4.block b (by simp; omega) (fun e => by have := (hown b e.symm).2; omega), heap_alloc_old _ _ h1]
  have hs5 : (w4.setCell ⟨N, 3, none⟩ v4).heap.size = w4.heap.size := by simp [World.setCell]
  have hnew : ∀ b, b < w3.heap.size → vL.ownBlock ≠ some b → v4.ownBlock ≠ some b := fun b hb h5 e => by
    rcases hat4 with h | h
    · exact h5 (h ▸ e)
    · rw [h] at e
      simp at e
      omega
  have hb3 : Below (rb + 1) w3 (w4.setCell ⟨N, 3, none⟩ v4) :=
    (((Below.refl _ _).alloc (by omega) _).grown hg4 (by simp; omega) (fun k hk => by have := (hown k hk).1; omega)).setCell (by show rb + 1 ≤ N; omega) _
  refine ⟨q, acc ++ [x], v4, by omega, hr3.keep hb3, hel, ?_, box_set (vL := vL) ?_, ⟨xs ++ [.int .i64 e1, .int .i64 e2, .string e3, .slice e4 e5 e6, .slice e7 e8 e9], ?_, fun i y hy => ?_⟩, ?_, by simp; omega⟩
  · rw [hkeep _ (by omega) (by omega) (by omega) (fun e => by have := (hown _ e).1; omega)]; exact hz
  · rw [hg4.block N (by simp; omega) (fun e => by have := (hown _ e.symm).1; omega), heap_alloc_old _ _ (by omega), hg3.block N hNr (by simp; omega)]; exact hbox
  · rw [List.length_append]
    exact ownsRow_setCell_below hown4 (by show N < N + 1; omega) _
  · have hxl := how.1
    by_cases hi : i < acc.length
    · rw [List.getElem?_append_left hi] at hy
      obtain ⟨k, n, s, A1, m, c, A2, m', c', c0, c1, c2, c3, c4, hv1⟩ := hels i y hy
      have ha : ∀ j, j < xs.length → (xs ++ [Value.int .i64 e1, .int .i64 e2, .string e3, .slice e4 e5 e6, .slice e7 e8 e9])[j]? = xs[j]? := fun j hj => List.getElem?_append_left hj
      refine ⟨k, n, s, A1, m, c, A2, m', c', by rw [ha _ (by omega)]; exact c0, by rw [ha _ (by omega)]; exact c1, by rw [ha _ (by omega)]; exact c2, by rw [ha _ (by omega)]; exact c3, by rw [ha _ (by omega)]; exact c4, hv1.keep (fun b hb => ⟨hb.1, by rw [hs5]; omega, hnew b (by omega) hb.2.2⟩) fun b hb => hkeep b hb.2.1 (by omega) (by omega) hb.2.2⟩
    · obtain rfl : i = acc.length := by
        have := (List.getElem?_eq_some_iff.1 hy).1
        simp at this
        omega
      rw [List.getElem?_append_right (Nat.le_refl _)] at hy
      simp at hy
      subst hy
      have ha : ∀ j, (xs ++ [Value.int .i64 e1, .int .i64 e2, .string e3, .slice e4 e5 e6, .slice e7 e8 e9])[acc.length * 5 + j]? = [Value.int .i64 e1, .int .i64 e2, .string e3, .slice e4 e5 e6, .slice e7 e8 e9][j]? := fun j => by
        rw [← hxl, List.getElem?_append_right (by omega), Nat.add_sub_cancel_left]
      refine ⟨e1, e2, e3, e4, e5, e6, e7, e8, e9, ha 0, ha 1, ha 2, ha 3, ha 4, hv.keep (fun b hb => ⟨by omega, by rw [hs5]; omega, hnew b hb.2 (fun e => by have := (hown b e).2; omega)⟩) fun b hb => hkeep3 b hb.1 hb.2⟩
  · refine ⟨hg4.os.trans (hg3.os.trans hgr.os), hg4.tape.trans (hg3.tape.trans hgr.tape), hg4.output.trans (hg3.output.trans hgr.output), by rw [hs5]; have := hgr.size; omega, fun b hb hne => ?_⟩
    have hbr := hgr.size
    rw [Below.heap_setCell _ _ _ _ (by show b ≠ N; omega), hg4.block b (by simp; omega) (fun e => by have := (hown b e.symm).1; omega), heap_alloc_old _ _ (by omega), hg3.block b (by omega) hne, hgr.block b hb hne]

set_option maxRecDepth 100000 in
set_option maxHeartbeats 4000000 in
theorem list_any (d : Nat) (ih : Hid (ValIs d)) (w : World) (rb : Nat) (b : UInt8) (bs : List UInt8) (h : RdAt w rb (b :: bs)) (hE : Env w) (hrb : gTop ≤ rb) (r : Option (List Va × List UInt8)) (hres : elemsP (valP d) (bs.length + 1) bs [] = r) (hd : d ≤ 100) :
    Calls Tryz.prog 104 #[.pointer (some ⟨rb, 0, none⟩), .int .i64 ((d : Int) + 1)] w (Ends rb (r.map fun p => (.mk 3 0 ⟨#[]⟩ p.1 [], p.2)) (VNew w) w) := by
  have hlt := h.lt
  have hbl : (b :: bs).length ≤ 1000000000 := by obtain ⟨_, _, _, _, hl⟩ := h; exact hl
  have hO := fun (W : World) (hW : Below w.heap.size w W) => open_any ((d : Int) + 1) W rb b bs (h.below hW) (by omega)
  have HO := hide hO; have HE := hide hE; have HRES := hide hres; have HBL := hide hbl
  clear h hE hres hO hbl
  go_enter Tryz.func104, Tryz.ntmps104
  go_wp2_with fail
  refine ((unhide HO) _ ((Below.refl _ _).alloc (Nat.le_refl _) _)).mono ?_; rintro e w1 ⟨_, rfl, rfl, hr1, hg1⟩
  have HH1 : Hid (w1.heap[w.heap.size]? = some (.cells zeroCells 66 (0, 0))) := by
    show w1.heap[w.heap.size]? = _
    rw [hg1.block w.heap.size (by simp) (by simp; omega)]
    exact heap_alloc_new _ _
  have HG1 : Hid (w.grownBy w1 (some rb)) := World.grownBy.trans (World.grownBy_alloc w _ (some rb)) hg1
  have hz1 : w.heap.size < w1.heap.size := by have := hg1.size; simp at this; omega
  have HR1 := hide hr1
  clear hr1 hg1
  go_wp2_with fail
  go_loopg [12] (bs.length + 1) (fun g s12 wx => ListAt w rb w1.heap.size r d g wx)
  case atStart =>
    refine ⟨bs, [], .slice none 0 0, by omega, (unhide HR1).below ((Below.refl _ _).alloc (Nat.le_refl _) _), unhide HRES, ?_, heap_alloc_new _ _, ⟨[], World.ownsRow_nil _ _ _ _, fun i x hx => by simp at hx⟩, World.grownBy.trans (unhide HG1) (World.grownBy_alloc _ _ _), ?_⟩
    · rw [heap_alloc_old _ _ hz1]; exact unhide HH1
    · have := unhide HBL; simp at this ⊢; omega
  case round =>
    obtain ⟨bs2, acc, vL, hlg, hrd, hel, hz, hbox, hown, hgr, hle⟩ := hrel
    cases gk with
    | zero => omega
    | succ g =>
      cases bs2 with
      | nil =>
        have HC := hide (closes_nil wr rb hrd)
        simp only [elemsP] at hel
        subst hel
        have HGR := hide hgr
        clear hrd hz hbox hown hgr
        go_wp2_with fail
        refine (unhide HC).mono ?_; rintro e w2 ⟨rfl, hg2⟩
        go_wp2_with fail
        exact ⟨rfl, rfl, grownTrans (unhide HGR) hg2⟩
      | cons b2 r2 =>
        by_cases hb2 : b2.toNat = 101
        · have HC := hide (closes_yes wr rb b2 r2 hrd hb2)
          simp only [elemsP, if_pos hb2] at hel
          subst hel
          obtain ⟨A, c, bb, o, vv, hv, hA, h5, hat⟩ := own_in hown
          subst hv
          have H5 := hide h5; have HAT := hide hat; have HGR := hide hgr; have HZ := hide hz; have HBX := hide hbox; have HLE := hide hle; have HAC := hide hA.1; have HCP := hide hA.2
          have hzr : w1.heap.size < wr.heap.size := lt_of_block hbox
          clear hrd hz hbox hown hgr h5 hat hb2 hle hA hlg
          go_wp2_with fail
          refine (unhide HC).mono ?_; rintro e w2 ⟨_, rfl, rfl, hr2, hg2⟩
          have hz2 : w2.heap[w.heap.size]? = some (.cells zeroCells 66 (0, 0)) := (hg2.block w.heap.size (by omega) (by simp; omega)).trans (unhide HZ)
          have hb2 : w2.heap[w1.heap.size]? = some (.cells (boxL 3 (.slice A acc.length c) (.slice none 0 0)) 66 (0, 0)) := (hg2.block w1.heap.size hzr (by simp; omega)).trans (unhide HBX)
          have f0 := (boxAt hz2 0).1; have f1 := (boxAt hz2 1).1; have f2 := (boxAt hz2 2).1; have f3 := (boxAt hz2 3).1; have f4 := (boxAt hz2 4).1
          have g0 := (boxAt hz2 0).2; have g1 := (boxAt hz2 1).2; have g2 := (boxAt hz2 2).2; have g3 := (boxAt hz2 3).2; have g4 := (boxAt hz2 4).2
          have k0 := (boxAt hb2 0).1; have k1 := (boxAt hb2 1).1; have k2 := (boxAt hb2 2).1; have k3 := (boxAt hb2 3).1; have k4 := (boxAt hb2 4).1
          simp at f0 f1 f2 f3 f4 k0 k1 k2 k3 k4
          have HR2 := hide hr2; have HG2 := hide hg2
          have hz3 : w1.heap.size < w2.heap.size := by have := hg2.size; omega
          clear hz2 hb2 hr2 hg2
          go_wp2_with fail
          refine bodyPost_ret (v := vaV 3 0 ⟨#[]⟩ A acc.length c none 0 0) (by simp [results, Tryz.results104, go_sem, f0, f1, f2, f3, f4]) rfl ⟨_, rfl, ?_, (unhide HR2).keep (below5 (by omega) _ _ _ _ _), set5 (grownTrans (unhide HGR) (unhide HG2)) (Nat.le_refl _) _ _ _ _ _⟩
          have hv0 : VIn wr (fun b => w1.heap.size < b ∧ b < wr.heap.size) (.mk 3 0 ⟨#[]⟩ acc []) (vaV 3 0 ⟨#[]⟩ A acc.length c none 0 0) :=
            .mk 3 0 ⟨#[]⟩ acc [] A c none 0 ⟨by decide, by decide⟩ ⟨by decide, by decide⟩ (by decide) (by have := unhide HLE; omega) (by decide) (unhide HAC) (fun _ => rfl) (unhide HCP) bb o vv (unhide H5) (unhide HAT) 0 0 (fun i s hs => by simp at hs)
          refine hv0.keep (fun b hb => ⟨by omega, ?_⟩) fun b hb => ?_
          · rw [set5_size]; have := (unhide HG2).size; omega
          · rw [set5_block (by omega)]; exact (unhide HG2).block b hb.2 (by simp; omega)
        · have HC := hide (closes_no wr rb b2 r2 hrd hb2)
          have hV := fun (W : World) (hW : Below wr.heap.size wr W) => (unhide ih) W rb (b2 :: r2) (hrd.below hW) (((unhide HE).grown hgr (by omega) hrb).along (hW.mono (by have := hrd.lt; omega))) hrb
          simp only [elemsP, if_neg hb2] at hel
          cases hq : valP d (b2 :: r2) with
          | none =>
            rw [hq] at hel
            simp only at hel
            subst hel
            rw [hq] at hV
            have HV : Hid (∀ W, Below wr.heap.size wr W → Calls Tryz.prog 59 #[.pointer (some ⟨rb, 0, none⟩), .int .i64 (d : Int)] W (Dead rb W)) := hV
            have HGR := hide hgr
            have k3 := (boxAt hbox 3).1
            simp at k3
            have hdw : IntKind.i64.wrap (d : Int) = (d : Int) := IntWalk.i64_in _ (by omega)
            clear hV hq hb2 hrd hz hbox hown hgr hle hlg
            go_wp2_with fail
            refine (unhide HC).mono ?_; rintro e w2 ⟨rfl, rfl⟩
            go_wp2_with fail
            refine wp_region_held_drew (S := fun W => W.cell? ⟨w1.heap.size, 3, none⟩ = some vL) (by kernel_rfl) k3 (fun hHeld => ?_)
            refine wpAnyH_take (i := 0) (v := ?_) rfl (by kernel_rfl) (by kernel_rfl) (by kernel_rfl) (fun _ _ _ h => h) (Or.inl ⟨by rfl, ?_⟩) (by assumption) ?_
            rotate_left
            · intro W hSW
              try dsimp only at hSW
              go_simp
              try with_reducible rfl
            try simp only [Act.put, List.setIfInBounds_toArray, List.set_cons_zero, List.set_cons_succ]
            refine wpAnyH_take (i := 1) (v := ?_) rfl (by kernel_rfl) (by kernel_rfl) (by kernel_rfl) (fun _ _ _ h => h) (Or.inl ⟨by rfl, ?_⟩) (by assumption) ?_
            rotate_left
            · intro W hSW
              try dsimp only at hSW
              go_simp
              try with_reducible rfl
            try simp only [Act.put, List.setIfInBounds_toArray, List.set_cons_zero, List.set_cons_succ]
            refine wpAnyH_take (i := 2) (v := ?_) rfl (by kernel_rfl) (by kernel_rfl) (by kernel_rfl) (fun _ _ _ h => h) (Or.inl ⟨by rfl, ?_⟩) (by assumption) ?_
            rotate_left
            · intro W hSW
              try dsimp only at hSW
              go_simp
              try with_reducible rfl
            try simp only [Act.put, List.setIfInBounds_toArray, List.set_cons_zero, List.set_cons_succ]
            refine wpAnyH_take (i := 3) (v := ?_) rfl (by kernel_rfl) (by kernel_rfl) (by kernel_rfl) (fun _ _ _ h => h) (Or.inl ⟨by rfl, ?_⟩) (by assumption) ?_
            rotate_left
            · intro W hSW
              try dsimp only at hSW
              go_simp
              try with_reducible rfl
            try simp only [Act.put, List.setIfInBounds_toArray, List.set_cons_zero, List.set_cons_succ]
            refine wpAnyH_take (i := 4) (v := ?_) rfl (by kernel_rfl) (by kernel_rfl) (by kernel_rfl) (fun _ _ _ h => h) (Or.inl ⟨by rfl, ?_⟩) (by assumption) ?_
            rotate_left
            · intro W hSW
              try dsimp only at hSW
              go_simp
              try with_reducible rfl
            try simp only [Act.put, List.setIfInBounds_toArray, List.set_cons_zero, List.set_cons_succ]
            refine wpAnyH_ready (rs := [5]) (by kernel_rfl) (by simp) ?_
            refine AllReadyH.cons (o := { dst := some 18, op := .call { callee := .value (.func 59), args := #[.tmp 15, .tmp 17], argTypes := #[140, 3] }, type := 66, pos := "read.go:38", after := #[{ on := 2, ground := .data }, { on := 4, ground := .data }], guard := none }) rfl (fun K hK => ?_) AllReadyH.nil
            clear hHeld
            go_simp
            refine ((unhide HV) _ (belowDrewN 1 (Below.refl _ _))).mono ?_; rintro e w3 ⟨rfl, hg3⟩
            go_wp2_with fail
            exact ⟨rfl, rfl, grownTrans (unhide HGR) (grownDrew hg3)⟩
          | some p =>
            obtain ⟨x, q⟩ := p
            rw [hq] at hel hV
            simp only at hel
            have HV : Hid (∀ W, Below wr.heap.size wr W → Calls Tryz.prog 59 #[.pointer (some ⟨rb, 0, none⟩), .int .i64 (d : Int)] W (Took rb q (VNew W x) W)) := hV
            obtain ⟨xs, how, hels⟩ := hown
            obtain ⟨i0, hi, hz0', hz1', hz2'⟩ := info_parts infoVal
            have k3 := (boxAt hbox 3).1
            have k3f := (boxAt hbox 3).2
            simp at k3
            have hdw : IntKind.i64.wrap (d : Int) = (d : Int) := IntWalk.i64_in _ (by omega)
            have hzr : w1.heap.size < wr.heap.size := lt_of_block hbox
            have hql := valP_len d _ _ _ hq
            have hrl := hrd.lt
            have hne := how.lt
            have HOW := hide how; have HELS := hide hels; have HGR := hide hgr; have HZ := hide hz; have HBX := hide hbox; have HLE := hide hle; have HNE := hide hne; have HEL := hide hel; have HQL := hide hql; have HLG := hide hlg
            clear hV hq hb2 hrd hz hbox hgr hle hlg how hels hne hel hql
            go_wp2_with fail
            refine (unhide HC).mono ?_; rintro e w2 ⟨rfl, rfl⟩
            go_wp2_with fail
            refine wp_region_held_drew (S := fun W => W.frozen? ⟨w1.heap.size, 3, none⟩ = false) (by kernel_rfl) k3f (fun hHeld => ?_)
            refine wpAnyH_take (i := 0) (v := ?_) rfl (by kernel_rfl) (by kernel_rfl) (by kernel_rfl) (fun _ _ _ h => h) (Or.inl ⟨by rfl, ?_⟩) (by assumption) ?_
            rotate_left
            · intro W hSW
              try dsimp only at hSW
              go_simp
              try with_reducible rfl
            try simp only [Act.put, List.setIfInBounds_toArray, List.set_cons_zero, List.set_cons_succ]
            refine wpAnyH_take (i := 2) (v := ?_) rfl (by kernel_rfl) (by kernel_rfl) (by kernel_rfl) (fun _ _ _ h => h) (Or.inl ⟨by rfl, ?_⟩) (by assumption) ?_
            rotate_left
            · intro W hSW
              try dsimp only at hSW
              go_simp
              try with_reducible rfl
            try simp only [Act.put, List.setIfInBounds_toArray, List.set_cons_zero, List.set_cons_succ]
            refine wpAnyH_take (i := 3) (v := ?_) rfl (by kernel_rfl) (by kernel_rfl) (by kernel_rfl) (fun _ _ _ h => h) (Or.inl ⟨by rfl, ?_⟩) (by assumption) ?_
            rotate_left
            · intro W hSW
              try dsimp only at hSW
              go_simp
              try with_reducible rfl
            try simp only [Act.put, List.setIfInBounds_toArray, List.set_cons_zero, List.set_cons_succ]
            refine wpAnyH_take (i := 4) (v := ?_) rfl (by kernel_rfl) (by kernel_rfl) (by kernel_rfl) (fun _ _ _ h => h) (Or.inl ⟨by rfl, ?_⟩) (by assumption) ?_
            rotate_left
            · intro W hSW
              try dsimp only at hSW
              go_simp
              try with_reducible rfl
            try simp only [Act.put, List.setIfInBounds_toArray, List.set_cons_zero, List.set_cons_succ]
            refine wpAnyH_ready (rs := [1, 5]) (by kernel_rfl) (by simp) ?_
            refine AllReadyH.cons (o := { dst := some 14, op := .load 63 (.tmp 13), type := 63, pos := "read.go:38", after := #[{ on := 0, ground := .data }], guard := none }) rfl (fun K hK => ?_) (AllReadyH.cons (o := { dst := some 18, op := .call { callee := .value (.func 59), args := #[.tmp 15, .tmp 17], argTypes := #[140, 3] }, type := 66, pos := "read.go:38", after := #[{ on := 2, ground := .data }, { on := 4, ground := .data }], guard := none }) rfl (fun K hK => ?_) AllReadyH.nil)
            · go_simp
              refine hK.out _ _ ?_ (fun hHeld => ?_)
              · exact k3f
              clear hK K
              try simp only [Act.put, List.setIfInBounds_toArray, List.set_cons_zero, List.set_cons_succ]
              refine wpAnyH_ready (rs := [5]) (by kernel_rfl) (by simp) ?_
              refine AllReadyH.cons (o := { dst := some 18, op := .call { callee := .value (.func 59), args := #[.tmp 15, .tmp 17], argTypes := #[140, 3] }, type := 66, pos := "read.go:38", after := #[{ on := 2, ground := .data }, { on := 4, ground := .data }], guard := none }) rfl (fun K hK => ?_) AllReadyH.nil
              go_simp
              refine ((unhide HV) _ (belowDrewN 1 (Below.refl _ _))).mono ?_; rintro e w3 ⟨v, rfl, hv, hr3, hg3⟩; obtain ⟨e1, e2, e3, e4, e5, e6, e7, e8, e9, rfl⟩ := VIn.form hv
              have hz3 : w1.heap.size < w3.heap.size := Nat.lt_of_lt_of_le hzr hg3.size
              have c3 : w3.cell? ⟨w1.heap.size, 3, none⟩ = some vL := (hg3.cell_far ⟨w1.heap.size, 3, none⟩ hzr (by simp; omega)).trans k3
              have c3f : w3.frozen? ⟨w1.heap.size, 3, none⟩ = false := (hg3.frozen_far ⟨w1.heap.size, 3, none⟩ hzr (by simp; omega)).trans k3f
              refine hK.out _ _ ?_ (fun hHeld => ?_)
              · exact c3f
              clear hK K
              try simp only [Act.put, List.setIfInBounds_toArray, List.set_cons_zero, List.set_cons_succ]
              refine wpAnyH_ready (rs := [6]) (by kernel_rfl) (by simp) ?_
              refine AllReadyH.cons (o := { dst := some 19, op := .buildSlice 63 1 #[(0, .tmp 18)], type := 63, pos := "read.go:38", after := #[{ on := 5, ground := .data }], guard := none }) rfl (fun K hK => ?_) AllReadyH.nil
              go_simp
              refine hK.out _ _ ?_ (fun hHeld => ?_)
              · exact (((Below.refl w3.heap.size w3).alloc (Nat.le_refl _) _).frozen (p := ⟨w1.heap.size, 3, none⟩) hz3).trans c3f
              clear hK K
              try simp only [Act.put, List.setIfInBounds_toArray, List.set_cons_zero, List.set_cons_succ]
              refine wpAnyH_ready (rs := [7]) (by kernel_rfl) (by simp) ?_
              refine AllReadyH.cons (o := { dst := some 20, op := .call { callee := .builtin .append, args := #[.tmp 14, .tmp 19], argTypes := #[63, 63] }, type := 63, pos := "read.go:38", after := #[{ on := 1, ground := .data }, { on := 6, ground := .data }, { on := 5, ground := .chain }], guard := none }) rfl (fun K hK => ?_) AllReadyH.nil
              refine step_append_at _ (by rfl) _ _ _ (by rfl) (w1.heap.size + 1) 66 i0 _ 5 80 Tryz.underlying63 hi hz0' hz1' hz2' rfl (by omega) vL acc.length xs (by rfl)
                 (World.ownsRow.alloc ((unhide HOW).kept (grownDrew hg3) (by right; intro e; have := (unhide HNE) _ e; omega)) _)
                 ⟨w3.heap.size, 0, none⟩ 1 1 [.int .i64 e1, .int .i64 e2, .string e3, .slice e4 e5 e6, .slice e7 e8 e9] (by rfl) (by rfl) (World.news_of_block (cs := #[.int .i64 e1, .int .i64 e2, .string e3, .slice e4 e5 e6, .slice e7 e8 e9]) (t := 66) (fr := (0, 0)) (heap_alloc_new w3 _)) (by simp [Value.oneCell'])
                 (by have := unhide HLE; unfold maxLen; omega) (by have := unhide HLE; omega) (by simp; omega) ?_
              intro v4 w4 hown4 hg4 hrow4 hat4
              obtain ⟨g4, cap4, rfl, hg41, hg42⟩ := hown4.form (by omega)
              have hr4 : some w1.heap.size ≠ vL.ownBlock := fun e => by have := ((unhide HNE) _ e.symm).1; omega
              have c4 : w4.cell? ⟨w1.heap.size, 3, none⟩ = some vL := (hg4.cell_far ⟨w1.heap.size, 3, none⟩ (by simp; omega) hr4).trans ((World.cell?_alloc_lt _ _ _ hz3).trans c3)
              have c4f : w4.frozen? ⟨w1.heap.size, 3, none⟩ = false := (hg4.frozen_far ⟨w1.heap.size, 3, none⟩ (by simp; omega) hr4).trans ((((Below.refl w3.heap.size w3).alloc (Nat.le_refl _) _).frozen (p := ⟨w1.heap.size, 3, none⟩) hz3).trans c3f)
              refine hK.out _ _ ?_ (fun hHeld => ?_)
              · exact c4f
              clear hK K
              try simp only [Act.put, List.setIfInBounds_toArray, List.set_cons_zero, List.set_cons_succ]
              refine wpAnyH_take (i := 8) (v := ?_) rfl (by kernel_rfl) (by kernel_rfl) (by kernel_rfl) (fun _ _ _ h => h) (Or.inl ⟨by rfl, ?_⟩) (by assumption) ?_
              rotate_left
              · intro W hSW
                try dsimp only at hSW
                go_simp
                try with_reducible rfl
              try simp only [Act.put, List.setIfInBounds_toArray, List.set_cons_zero, List.set_cons_succ]
              refine wpAnyH_ready (rs := [9]) (by kernel_rfl) (by simp) ?_
              refine AllReadyH.cons rfl (fun K hK => ?_) AllReadyH.nil
              go_simp
              refine hK.out _ _ ?_ (fun hHeld => ?_)
              · exact (World.frozen?_setCell _ _ _ _).trans c4f
              clear hK K
              try simp only [Act.put, List.setIfInBounds_toArray, List.set_cons_zero, List.set_cons_succ]
              refine wpAnyH_done (by kernel_rfl) ?_ _
              go_wp2_with fail
              go_roundg g
              case measure => omega
              case rel => exact list_round hlt hz1 (unhide HLG) (unhide HQL) (unhide HLE) hr3 (unhide HEL) (unhide HZ) (unhide HBX) (unhide HOW) (unhide HELS) (unhide HGR) (grownDrew hg3) hv hown4 hg4 hat4
            · go_simp
              refine ((unhide HV) _ (belowDrewN 1 (Below.refl _ _))).mono ?_; rintro e w3 ⟨v, rfl, hv, hr3, hg3⟩; obtain ⟨e1, e2, e3, e4, e5, e6, e7, e8, e9, rfl⟩ := VIn.form hv
              have hz3 : w1.heap.size < w3.heap.size := Nat.lt_of_lt_of_le hzr hg3.size
              have c3 : w3.cell? ⟨w1.heap.size, 3, none⟩ = some vL := (hg3.cell_far ⟨w1.heap.size, 3, none⟩ hzr (by simp; omega)).trans k3
              have c3f : w3.frozen? ⟨w1.heap.size, 3, none⟩ = false := (hg3.frozen_far ⟨w1.heap.size, 3, none⟩ hzr (by simp; omega)).trans k3f
              refine hK.out _ _ ?_ (fun hHeld => ?_)
              · exact c3f
              clear hK K
              try simp only [Act.put, List.setIfInBounds_toArray, List.set_cons_zero, List.set_cons_succ]
              refine wpAnyH_ready (rs := [1, 6]) (by kernel_rfl) (by simp) ?_
              refine AllReadyH.cons (o := { dst := some 14, op := .load 63 (.tmp 13), type := 63, pos := "read.go:38", after := #[{ on := 0, ground := .data }], guard := none }) rfl (fun K hK => ?_) (AllReadyH.cons (o := { dst := some 19, op := .buildSlice 63 1 #[(0, .tmp 18)], type := 63, pos := "read.go:38", after := #[{ on := 5, ground := .data }], guard := none }) rfl (fun K hK => ?_) AllReadyH.nil)
              · go_simp
                refine hK.out _ _ ?_ (fun hHeld => ?_)
                · exact c3f
                clear hK K
                try simp only [Act.put, List.setIfInBounds_toArray, List.set_cons_zero, List.set_cons_succ]
                refine wpAnyH_ready (rs := [6]) (by kernel_rfl) (by simp) ?_
                refine AllReadyH.cons (o := { dst := some 19, op := .buildSlice 63 1 #[(0, .tmp 18)], type := 63, pos := "read.go:38", after := #[{ on := 5, ground := .data }], guard := none }) rfl (fun K hK => ?_) AllReadyH.nil
                go_simp
                refine hK.out _ _ ?_ (fun hHeld => ?_)
                · exact (((Below.refl w3.heap.size w3).alloc (Nat.le_refl _) _).frozen (p := ⟨w1.heap.size, 3, none⟩) hz3).trans c3f
                clear hK K
                try simp only [Act.put, List.setIfInBounds_toArray, List.set_cons_zero, List.set_cons_succ]
                refine wpAnyH_ready (rs := [7]) (by kernel_rfl) (by simp) ?_
                refine AllReadyH.cons (o := { dst := some 20, op := .call { callee := .builtin .append, args := #[.tmp 14, .tmp 19], argTypes := #[63, 63] }, type := 63, pos := "read.go:38", after := #[{ on := 1, ground := .data }, { on := 6, ground := .data }, { on := 5, ground := .chain }], guard := none }) rfl (fun K hK => ?_) AllReadyH.nil
                refine step_append_at _ (by rfl) _ _ _ (by rfl) (w1.heap.size + 1) 66 i0 _ 5 80 Tryz.underlying63 hi hz0' hz1' hz2' rfl (by omega) vL acc.length xs (by rfl)
                   (World.ownsRow.alloc ((unhide HOW).kept (grownDrew hg3) (by right; intro e; have := (unhide HNE) _ e; omega)) _)
                   ⟨w3.heap.size, 0, none⟩ 1 1 [.int .i64 e1, .int .i64 e2, .string e3, .slice e4 e5 e6, .slice e7 e8 e9] (by rfl) (by rfl) (World.news_of_block (cs := #[.int .i64 e1, .int .i64 e2, .string e3, .slice e4 e5 e6, .slice e7 e8 e9]) (t := 66) (fr := (0, 0)) (heap_alloc_new w3 _)) (by simp [Value.oneCell'])
                   (by have := unhide HLE; unfold maxLen; omega) (by have := unhide HLE; omega) (by simp; omega) ?_
                intro v4 w4 hown4 hg4 hrow4 hat4
                obtain ⟨g4, cap4, rfl, hg41, hg42⟩ := hown4.form (by omega)
                have hr4 : some w1.heap.size ≠ vL.ownBlock := fun e => by have := ((unhide HNE) _ e.symm).1; omega
                have c4 : w4.cell? ⟨w1.heap.size, 3, none⟩ = some vL := (hg4.cell_far ⟨w1.heap.size, 3, none⟩ (by simp; omega) hr4).trans ((World.cell?_alloc_lt _ _ _ hz3).trans c3)
                have c4f : w4.frozen? ⟨w1.heap.size, 3, none⟩ = false := (hg4.frozen_far ⟨w1.heap.size, 3, none⟩ (by simp; omega) hr4).trans ((((Below.refl w3.heap.size w3).alloc (Nat.le_refl _) _).frozen (p := ⟨w1.heap.size, 3, none⟩) hz3).trans c3f)
                refine hK.out _ _ ?_ (fun hHeld => ?_)
                · exact c4f
                clear hK K
                try simp only [Act.put, List.setIfInBounds_toArray, List.set_cons_zero, List.set_cons_succ]
                refine wpAnyH_take (i := 8) (v := ?_) rfl (by kernel_rfl) (by kernel_rfl) (by kernel_rfl) (fun _ _ _ h => h) (Or.inl ⟨by rfl, ?_⟩) (by assumption) ?_
                rotate_left
                · intro W hSW
                  try dsimp only at hSW
                  go_simp
                  try with_reducible rfl
                try simp only [Act.put, List.setIfInBounds_toArray, List.set_cons_zero, List.set_cons_succ]
                refine wpAnyH_ready (rs := [9]) (by kernel_rfl) (by simp) ?_
                refine AllReadyH.cons rfl (fun K hK => ?_) AllReadyH.nil
                go_simp
                refine hK.out _ _ ?_ (fun hHeld => ?_)
                · exact (World.frozen?_setCell _ _ _ _).trans c4f
                clear hK K
                try simp only [Act.put, List.setIfInBounds_toArray, List.set_cons_zero, List.set_cons_succ]
                refine wpAnyH_done (by kernel_rfl) ?_ _
                go_wp2_with fail
                go_roundg g
                case measure => omega
                case rel => exact list_round hlt hz1 (unhide HLG) (unhide HQL) (unhide HLE) hr3 (unhide HEL) (unhide HZ) (unhide HBX) (unhide HOW) (unhide HELS) (unhide HGR) (grownDrew hg3) hv hown4 hg4 hat4
              · go_simp
                refine hK.out _ _ ?_ (fun hHeld => ?_)
                · exact (((Below.refl w3.heap.size w3).alloc (Nat.le_refl _) _).frozen (p := ⟨w1.heap.size, 3, none⟩) hz3).trans c3f
                clear hK K
                try simp only [Act.put, List.setIfInBounds_toArray, List.set_cons_zero, List.set_cons_succ]
                refine wpAnyH_ready (rs := [1]) (by kernel_rfl) (by simp) ?_
                refine AllReadyH.cons (o := { dst := some 14, op := .load 63 (.tmp 13), type := 63, pos := "read.go:38", after := #[{ on := 0, ground := .data }], guard := none }) rfl (fun K hK => ?_) AllReadyH.nil
                go_simp
                refine hK.out _ _ ?_ (fun hHeld => ?_)
                · exact (((Below.refl w3.heap.size w3).alloc (Nat.le_refl _) _).frozen (p := ⟨w1.heap.size, 3, none⟩) hz3).trans c3f
                clear hK K
                try simp only [Act.put, List.setIfInBounds_toArray, List.set_cons_zero, List.set_cons_succ]
                refine wpAnyH_ready (rs := [7]) (by kernel_rfl) (by simp) ?_
                refine AllReadyH.cons (o := { dst := some 20, op := .call { callee := .builtin .append, args := #[.tmp 14, .tmp 19], argTypes := #[63, 63] }, type := 63, pos := "read.go:38", after := #[{ on := 1, ground := .data }, { on := 6, ground := .data }, { on := 5, ground := .chain }], guard := none }) rfl (fun K hK => ?_) AllReadyH.nil
                refine step_append_at _ (by rfl) _ _ _ (by rfl) (w1.heap.size + 1) 66 i0 _ 5 80 Tryz.underlying63 hi hz0' hz1' hz2' rfl (by omega) vL acc.length xs (by rfl)
                   (World.ownsRow.alloc ((unhide HOW).kept (grownDrew hg3) (by right; intro e; have := (unhide HNE) _ e; omega)) _)
                   ⟨w3.heap.size, 0, none⟩ 1 1 [.int .i64 e1, .int .i64 e2, .string e3, .slice e4 e5 e6, .slice e7 e8 e9] (by rfl) (by rfl) (World.news_of_block (cs := #[.int .i64 e1, .int .i64 e2, .string e3, .slice e4 e5 e6, .slice e7 e8 e9]) (t := 66) (fr := (0, 0)) (heap_alloc_new w3 _)) (by simp [Value.oneCell'])
                   (by have := unhide HLE; unfold maxLen; omega) (by have := unhide HLE; omega) (by simp; omega) ?_
                intro v4 w4 hown4 hg4 hrow4 hat4
                obtain ⟨g4, cap4, rfl, hg41, hg42⟩ := hown4.form (by omega)
                have hr4 : some w1.heap.size ≠ vL.ownBlock := fun e => by have := ((unhide HNE) _ e.symm).1; omega
                have c4 : w4.cell? ⟨w1.heap.size, 3, none⟩ = some vL := (hg4.cell_far ⟨w1.heap.size, 3, none⟩ (by simp; omega) hr4).trans ((World.cell?_alloc_lt _ _ _ hz3).trans c3)
                have c4f : w4.frozen? ⟨w1.heap.size, 3, none⟩ = false := (hg4.frozen_far ⟨w1.heap.size, 3, none⟩ (by simp; omega) hr4).trans ((((Below.refl w3.heap.size w3).alloc (Nat.le_refl _) _).frozen (p := ⟨w1.heap.size, 3, none⟩) hz3).trans c3f)
                refine hK.out _ _ ?_ (fun hHeld => ?_)
                · exact c4f
                clear hK K
                try simp only [Act.put, List.setIfInBounds_toArray, List.set_cons_zero, List.set_cons_succ]
                refine wpAnyH_take (i := 8) (v := ?_) rfl (by kernel_rfl) (by kernel_rfl) (by kernel_rfl) (fun _ _ _ h => h) (Or.inl ⟨by rfl, ?_⟩) (by assumption) ?_
                rotate_left
                · intro W hSW
                  try dsimp only at hSW
                  go_simp
                  try with_reducible rfl
                try simp only [Act.put, List.setIfInBounds_toArray, List.set_cons_zero, List.set_cons_succ]
                refine wpAnyH_ready (rs := [9]) (by kernel_rfl) (by simp) ?_
                refine AllReadyH.cons rfl (fun K hK => ?_) AllReadyH.nil
                go_simp
                refine hK.out _ _ ?_ (fun hHeld => ?_)
                · exact (World.frozen?_setCell _ _ _ _).trans c4f
                clear hK K
                try simp only [Act.put, List.setIfInBounds_toArray, List.set_cons_zero, List.set_cons_succ]
                refine wpAnyH_done (by kernel_rfl) ?_ _
                go_wp2_with fail
                go_roundg g
                case measure => omega
                case rel => exact list_round hlt hz1 (unhide HLG) (unhide HQL) (unhide HLE) hr3 (unhide HEL) (unhide HZ) (unhide HBX) (unhide HOW) (unhide HELS) (unhide HGR) (grownDrew hg3) hv hown4 hg4 hat4
end Go.Proofs.YtdmaopfaeigelaaGreatDoor
