/- Contracts over the codec's program, each for all bytes: the reader's dict. (Written by wip/tools/gen_dict.py out of the list's text.) -/
import Derived.Test.YtdmaopfaeigelaaGreatDoorCodList
import Derived.Test.YtdmaopfaeigelaaGreatDoorCodBack
namespace Go.Proofs.YtdmaopfaeigelaaGreatDoor
set_option linter.unusedSimpArgs false
set_option linter.unusedVariables false
open Go.RowKit

/-- the elements that have been read, where they lie, and that the keys don't -/
def OwnEls2 (wr : World) (N : Nat) (vL vK : Value) (acc : List Va) : Prop :=
  ∃ xs, wr.ownsRow (N + 1) 66 5 vL acc.length xs ∧ ∀ (i : Nat) (x : Va), acc[i]? = some x → ∃ k n s A1 m c A2 m' c', xs[i * 5]? = some (.int .i64 k) ∧ xs[i * 5 + 1]? = some (.int .i64 n) ∧ xs[i * 5 + 2]? = some (.string s) ∧
    xs[i * 5 + 3]? = some (.slice A1 m c) ∧ xs[i * 5 + 4]? = some (.slice A2 m' c') ∧ VIn wr (fun b => N < b ∧ b < wr.heap.size ∧ vL.ownBlock ≠ some b ∧ vK.ownBlock ≠ some b) x (vaV k n s A1 m c A2 m' c')
theorem OwnEls2.one {wr : World} {N : Nat} {vL vK : Value} {acc : List Va} (h : OwnEls2 wr N vL vK acc) : OwnEls wr N vL acc := by
  obtain ⟨xs, h1, h2⟩ := h
  refine ⟨xs, h1, fun i x hx => ?_⟩
  obtain ⟨k, n, s, A1, m, c, A2, m', c', c0, c1, c2, c3, c4, hv⟩ := h2 i x hx
  exact ⟨k, n, s, A1, m, c, A2, m', c', c0, c1, c2, c3, c4, hv.keep (fun b hb => ⟨hb.1, hb.2.1, hb.2.2.1⟩) fun b _ => rfl⟩
def OwnKeys (wr : World) (N : Nat) (vK : Value) (ks : List ByteArray) : Prop :=
  wr.ownsRow (N + 1) 9 1 vK ks.length (ks.map Value.string) ∧ ∀ (i : Nat) (s : ByteArray), ks[i]? = some s → s.size ≤ 140737488351232
theorem keys_in {wr : World} {N : Nat} {vK : Value} {ks : List ByteArray} (h : OwnKeys wr N vK ks) : ∃ (A : Option Addr) (c b : Nat), vK = .slice A ks.length c ∧ (A = none → c = 0) ∧
    ∀ (i : Nat) (s : ByteArray), ks[i]? = some s → A = some ⟨b, 0, none⟩ ∧ (N < b ∧ b < wr.heap.size) ∧ wr.cell? ⟨b, 0 + i, none⟩ = some (.string s) ∧ s.size ≤ 140737488351232 := by
  obtain ⟨hown, hsz⟩ := h
  rcases hown.2 with ⟨rfl, h0⟩ | ⟨g, cap, cur, rfl, hB, hc, _⟩
  · have e : ks = [] := List.length_eq_zero_iff.1 h0
    subst e
    exact ⟨none, 0, 0, rfl, fun _ => rfl, fun i s hs => by simp at hs⟩
  · have hlt := (Array.getElem?_eq_some_iff.1 hc).1
    refine ⟨some ⟨g, 0, none⟩, cap, g, rfl, (fun h => by cases h), fun i s hs => ⟨rfl, ⟨by omega, hlt⟩, ?_, hsz i s hs⟩⟩
    have hi := (List.getElem?_eq_some_iff.1 hs).1
    rw [Nat.zero_add, hown.cellAt _ (by omega), List.getElem?_map, hs]
    rfl
/-- where the loop of dict stands -/
def DictAt (w : World) (rb N2 : Nat) (r : Option ((List Va × List ByteArray) × List UInt8)) (d : Nat) (g : Nat) (wr : World) : Prop :=
  ∃ (bs : List UInt8) (acc : List Va) (ks : List ByteArray) (vL vK : Value), bs.length < g ∧ RdAt wr rb bs ∧ pairsP (valP d) g bs acc ks = r ∧ wr.heap[w.heap.size]? = some (.cells zeroCells 66 (0, 0)) ∧
    wr.heap[N2]? = some (.cells (boxL 4 vL vK) 66 (0, 0)) ∧ OwnEls2 wr N2 vL vK acc ∧ OwnKeys wr N2 vK ks ∧ (∀ b, vL.ownBlock = some b → vK.ownBlock ≠ some b) ∧ w.grownBy wr (some rb) ∧ acc.length + bs.length ≤ 1000000000 ∧ ks.length = acc.length
/-- what the pairs are, once the key has been read -/
def pairsK (d g : Nat) (q0 : List UInt8) (acc : List Va) (ks : List ByteArray) : Option ((List Va × List ByteArray) × List UInt8) :=
  match valP d q0 with
  | none => none
  | some (x, q') => pairsP (valP d) g q' (acc ++ [x]) ks
/-- where it stands behind the key -/
def MidAt (w : World) (rb N2 : Nat) (r : Option ((List Va × List ByteArray) × List UInt8)) (d g : Nat) (q0 : List UInt8) (acc : List Va) (ks : List ByteArray) (vL vK : Value) (wr : World) : Prop :=
  q0.length < g ∧ RdAt wr rb q0 ∧ pairsK d g q0 acc ks = r ∧ wr.heap[w.heap.size]? = some (.cells zeroCells 66 (0, 0)) ∧
    wr.heap[N2]? = some (.cells (boxL 4 vL vK) 66 (0, 0)) ∧ OwnEls2 wr N2 vL vK acc ∧ OwnKeys wr N2 vK ks ∧ (∀ b, vL.ownBlock = some b → vK.ownBlock ≠ some b) ∧ w.grownBy wr (some rb) ∧ acc.length + q0.length < 1000000000 ∧ ks.length = acc.length + 1

theorem infoStr : (Tryz.prog.info? 9).map (fun i => (i.zero, i.size, i.bytes)) = some (some (.string ⟨#[]⟩), 1, 16) := by kernel_rfl
theorem box_set4 {w : World} {N : Nat} {k : Int} {vL vK v : Value} {t : TypeId} (h : w.heap[N]? = some (.cells (boxL k vL vK) t (0, 0))) : (w.setCell ⟨N, 4, none⟩ v).heap[N]? = some (.cells (boxL k vL v) t (0, 0)) := by
  have hlt := lt_of_block h
  have h' : w.heap[N] = .cells (boxL k vL vK) t (0, 0) := by simpa [Array.getElem?_eq_getElem hlt] using h
  show (w.heap.modify N _)[N]? = _
  rw [Array.getElem?_eq_getElem (by simpa using hlt), Array.getElem_modify_self, h']
  rfl

theorem dict_key {w wr w3 w4 : World} {rb N : Nat} {r : Option ((List Va × List ByteArray) × List UInt8)} {d g : Nat} {acc : List Va} {ks : List ByteArray} {key : ByteArray} {vL vK v4 : Value} {q0 bs : List UInt8} {o : Obj}
    (hrw : rb < w.heap.size) (hwN : w.heap.size < N) (hlg : bs.length < g + 1) (hql : q0.length < bs.length) (hkl : key.size ≤ 1000000000) (hle : acc.length + bs.length ≤ 1000000000) (hr3 : RdAt w3 rb q0) (hel : pairsK d g q0 acc (ks ++ [key]) = r)
    (hz : wr.heap[w.heap.size]? = some (.cells zeroCells 66 (0, 0))) (hbox : wr.heap[N]? = some (.cells (boxL 4 vL vK) 66 (0, 0)))
    (hown : OwnEls2 wr N vL vK acc) (hok : OwnKeys wr N vK ks) (hdis : ∀ b, vL.ownBlock = some b → vK.ownBlock ≠ some b) (hkn : ks.length = acc.length)
    (hgr : w.grownBy wr (some rb)) (hg3 : wr.grownBy w3 (some rb))
    (hown4 : w4.ownsRow (N + 1) 9 1 v4 (ks.length + 1) (ks.map Value.string ++ [.string key])) (hg4 : (w3.alloc o).grownBy w4 vK.ownBlock)
    (hat4 : v4.ownBlock = vK.ownBlock ∨ v4.ownBlock = some (w3.heap.size + 1)) : MidAt w rb N r d g q0 acc (ks ++ [key]) vL v4 (w4.setCell ⟨N, 4, none⟩ v4) := by
  have hNr := lt_of_block hbox
  have h3 := hg3.size
  have h4 : w3.heap.size < w4.heap.size := by have := hg4.size; simp at this; omega
  obtain ⟨xs, how, hels⟩ := hown
  have hkb := hok.1.lt
  have hlb := how.lt
  have hkeep : ∀ b, b < wr.heap.size → b ≠ rb → b ≠ N → vK.ownBlock ≠ some b → (w4.setCell ⟨N, 4, none⟩ v4).heap[b]? = wr.heap[b]? := fun b hb h1 h2 h5 => by
    rw [Below.heap_setCell _ _ _ _ h2, hg4.block b (by simp; omega) (fun e => h5 e.symm), heap_alloc_old _ _ (by omega), hg3.block b hb (by simpa using h1)]
  have hs5 : (w4.setCell ⟨N, 4, none⟩ v4).heap.size = w4.heap.size := by simp [World.setCell]
  have hnew : ∀ b, b < w3.heap.size → vK.ownBlock ≠ some b → v4.ownBlock ≠ some b := fun b hb h5 e => by
    rcases hat4 with h | h
    · exact h5 (h ▸ e)
    · rw [h] at e
      simp at e
      omega
  have hb3 : Below (rb + 1) w3 (w4.setCell ⟨N, 4, none⟩ v4) :=
    (((Below.refl _ _).alloc (by omega) _).grown hg4 (by simp; omega) (fun k hk => by have := (hkb k hk).1; omega)).setCell (by show rb + 1 ≤ N; omega) _
  have hol : w4.ownsRow (N + 1) 66 5 vL acc.length xs := by
    refine (World.ownsRow.alloc (how.kept hg3 (.inr fun e => by have := (hlb _ e).1; omega)) o).kept hg4 ?_
    cases hv : vL.ownBlock with
    | none => exact .inl rfl
    | some b => exact .inr fun e => hdis b hv e.symm
  refine ⟨by omega, hr3.keep hb3, hel, ?_, box_set4 (vK := vK) ?_, ⟨xs, ownsRow_setCell_below hol (by show N < N + 1; omega) _, fun i y hy => ?_⟩, ⟨?_, fun i s hs => ?_⟩, fun b hb => hnew b (by have := (hlb b hb).2; omega) (hdis b hb), ?_, by omega, by simp; omega⟩
  · rw [hkeep _ (by omega) (by omega) (by omega) (fun e => by have := (hkb _ e).1; omega)]; exact hz
  · rw [hg4.block N (by simp; omega) (fun e => by have := (hkb _ e.symm).1; omega), heap_alloc_old _ _ (by omega), hg3.block N hNr (by simp; omega)]; exact hbox
  · obtain ⟨k, n, s, A1, m, c, A2, m', c', c0, c1, c2, c3, c4, hv1⟩ := hels i y hy
    exact ⟨k, n, s, A1, m, c, A2, m', c', c0, c1, c2, c3, c4, hv1.keep (fun b hb => ⟨hb.1, by rw [hs5]; omega, hb.2.2.1, hnew b (by omega) hb.2.2.2⟩) fun b hb => hkeep b hb.2.1 (by omega) (by omega) hb.2.2.2⟩
  · rw [List.length_append, List.map_append]
    exact ownsRow_setCell_below hown4 (by show N < N + 1; omega) _
  · by_cases hi : i < ks.length
    · rw [List.getElem?_append_left hi] at hs
      exact hok.2 i s hs
    · obtain rfl : i = ks.length := by
        have := (List.getElem?_eq_some_iff.1 hs).1
        simp at this
        omega
      rw [List.getElem?_append_right (Nat.le_refl _)] at hs
      simp at hs
      subst hs
      omega
  · refine ⟨hg4.os.trans (hg3.os.trans hgr.os), hg4.tape.trans (hg3.tape.trans hgr.tape), hg4.output.trans (hg3.output.trans hgr.output), by rw [hs5]; have := hgr.size; omega, fun b hb hne => ?_⟩
    have hbr := hgr.size
    rw [Below.heap_setCell _ _ _ _ (by show b ≠ N; omega), hg4.block b (by simp; omega) (fun e => by have := (hkb b e.symm).1; omega), heap_alloc_old _ _ (by omega), hg3.block b (by omega) hne, hgr.block b hb hne]

theorem dict_round {w wr w3 w4 : World} {rb N : Nat} {r : Option ((List Va × List ByteArray) × List UInt8)} {d g : Nat} {acc : List Va} {ks : List ByteArray} {xs : List Value} {vL vK v4 : Value} {x : Va} {q bs : List UInt8}
    {e1 e2 : Int} {e3 : ByteArray} {e4 : Option Addr} {e5 e6 : Nat} {e7 : Option Addr} {e8 e9 : Nat} {o : Obj}
    (hrw : rb < w.heap.size) (hwN : w.heap.size < N) (hlg : bs.length < g) (hql : q.length < bs.length) (hle : acc.length + bs.length < 1000000000) (hr3 : RdAt w3 rb q) (hel : pairsP (valP d) g q (acc ++ [x]) ks = r)
    (hz : wr.heap[w.heap.size]? = some (.cells zeroCells 66 (0, 0))) (hbox : wr.heap[N]? = some (.cells (boxL 4 vL vK) 66 (0, 0)))
    (how : wr.ownsRow (N + 1) 66 5 vL acc.length xs)
    (hels : ∀ (i : Nat) (x : Va), acc[i]? = some x → ∃ k n s A1 m c A2 m' c', xs[i * 5]? = some (.int .i64 k) ∧ xs[i * 5 + 1]? = some (.int .i64 n) ∧ xs[i * 5 + 2]? = some (.string s) ∧
      xs[i * 5 + 3]? = some (.slice A1 m c) ∧ xs[i * 5 + 4]? = some (.slice A2 m' c') ∧ VIn wr (fun b => N < b ∧ b < wr.heap.size ∧ vL.ownBlock ≠ some b ∧ vK.ownBlock ≠ some b) x (vaV k n s A1 m c A2 m' c'))
    (hok : OwnKeys wr N vK ks) (hdis : ∀ b, vL.ownBlock = some b → vK.ownBlock ≠ some b) (hkn : ks.length = acc.length + 1)
    (hgr : w.grownBy wr (some rb)) (hg3 : wr.grownBy w3 (some rb)) (hv : VIn w3 (fun b => wr.heap.size ≤ b ∧ b < w3.heap.size) x (vaV e1 e2 e3 e4 e5 e6 e7 e8 e9))
    (hown4 : w4.ownsRow (N + 1) 66 5 v4 (acc.length + 1) (xs ++ [.int .i64 e1, .int .i64 e2, .string e3, .slice e4 e5 e6, .slice e7 e8 e9])) (hg4 : (w3.alloc o).grownBy w4 vL.ownBlock)
    (hat4 : v4.ownBlock = vL.ownBlock ∨ v4.ownBlock = some (w3.alloc o).heap.size) : DictAt w rb N r d g (w4.setCell ⟨N, 3, none⟩ v4) := by
  have hNr := lt_of_block hbox
  have h3 := hg3.size
  have h4 : w3.heap.size < w4.heap.size := by have := hg4.size; simp at this; omega
  have hown := how.lt
  have hkb := hok.1.lt
  have hkeep : ∀ b, b < wr.heap.size → b ≠ rb → b ≠ N → vL.ownBlock ≠ some b → (w4.setCell ⟨N, 3, none⟩ v4).heap[b]? = wr.heap[b]? := fun b hb h1 h2 h5 => by
    rw [Below.heap_setCell _ _ _ _ h2, hg4.block b (by simp; omega) (fun e => h5 e.symm), heap_alloc_old _ _ (by omega), hg3.block b hb (by simpa using h1)]
  have hkeep3 : ∀ b, wr.heap.size ≤ b → b < w3.heap.size → (w4.setCell ⟨N, 3, none⟩ v4).heap[b]? = w3.heap[b]? := fun b hb h1 => by
    rw [Below.heap_setCell _ _ _ _ (by show b ≠ N; omega), hg4.block b (by simp; omega) (fun e => by have := (hown b e.symm).2; omega), heap_alloc_old _ _ h1]
  have hs5 : (w4.setCell ⟨N, 3, none⟩ v4).heap.size = w4.heap.size := by simp [World.setCell]
  have hnew : ∀ b, b < w3.heap.size → vL.ownBlock ≠ some b → v4.ownBlock ≠ some b := fun b hb h5 e => by
    rcases hat4 with h | h
    · exact h5 (h ▸ e)
    · rw [h] at e
      simp at e
      omega
  have hb3 : Below (rb + 1) w3 (w4.setCell ⟨N, 3, none⟩ v4) :=
    (((Below.refl _ _).alloc (by omega) _).grown hg4 (by simp; omega) (fun k hk => by have := (hown k hk).1; omega)).setCell (by show rb + 1 ≤ N; omega) _
  have hokk : w4.ownsRow (N + 1) 9 1 vK ks.length (ks.map Value.string) := by
    refine (World.ownsRow.alloc (hok.1.kept hg3 (.inr fun e => by have := (hkb _ e).1; omega)) o).kept hg4 ?_
    cases hv : vK.ownBlock with
    | none => exact .inl rfl
    | some b => exact .inr fun e => hdis b e.symm hv
  refine ⟨q, acc ++ [x], ks, v4, vK, by omega, hr3.keep hb3, hel, ?_, box_set (vL := vL) ?_, ⟨xs ++ [.int .i64 e1, .int .i64 e2, .string e3, .slice e4 e5 e6, .slice e7 e8 e9], ?_, fun i y hy => ?_⟩, ⟨ownsRow_setCell_below hokk (by show N < N + 1; omega) _, hok.2⟩, fun b hb e => ?_, ?_, by simp; omega, by simp; omega⟩
  · rw [hkeep _ (by omega) (by omega) (by omega) (fun e => by have := (hown _ e).1; omega)]; exact hz
  · rw [hg4.block N (by simp; omega) (fun e => by have := (hown _ e.symm).1; omega), heap_alloc_old _ _ (by omega), hg3.block N hNr (by simp; omega)]; exact hbox
  · rw [List.length_append]
    exact ownsRow_setCell_below hown4 (by show N < N + 1; omega) _
  · have hxl := how.1
    by_cases hi : i < acc.length
    · rw [List.getElem?_append_left hi] at hy
      obtain ⟨k, n, s, A1, m, c, A2, m', c', c0, c1, c2, c3, c4, hv1⟩ := hels i y hy
      have ha : ∀ j, j < xs.length → (xs ++ [Value.int .i64 e1, .int .i64 e2, .string e3, .slice e4 e5 e6, .slice e7 e8 e9])[j]? = xs[j]? := fun j hj => List.getElem?_append_left hj
      refine ⟨k, n, s, A1, m, c, A2, m', c', by rw [ha _ (by omega)]; exact c0, by rw [ha _ (by omega)]; exact c1, by rw [ha _ (by omega)]; exact c2, by rw [ha _ (by omega)]; exact c3, by rw [ha _ (by omega)]; exact c4, hv1.keep (fun b hb => ⟨hb.1, by rw [hs5]; omega, hnew b (by omega) hb.2.2.1, hb.2.2.2⟩) fun b hb => hkeep b hb.2.1 (by omega) (by omega) hb.2.2.1⟩
    · obtain rfl : i = acc.length := by
        have := (List.getElem?_eq_some_iff.1 hy).1
        simp at this
        omega
      rw [List.getElem?_append_right (Nat.le_refl _)] at hy
      simp at hy
      subst hy
      have ha : ∀ j, (xs ++ [Value.int .i64 e1, .int .i64 e2, .string e3, .slice e4 e5 e6, .slice e7 e8 e9])[acc.length * 5 + j]? = [Value.int .i64 e1, .int .i64 e2, .string e3, .slice e4 e5 e6, .slice e7 e8 e9][j]? := fun j => by
        rw [← hxl, List.getElem?_append_right (by omega), Nat.add_sub_cancel_left]
      refine ⟨e1, e2, e3, e4, e5, e6, e7, e8, e9, ha 0, ha 1, ha 2, ha 3, ha 4, hv.keep (fun b hb => ⟨by omega, by rw [hs5]; omega, hnew b hb.2 (fun e => by have := (hown b e).2; omega), fun e => by have := (hkb b e).2; omega⟩) fun b hb => hkeep3 b hb.1 hb.2⟩
  · have h5 := (hkb b e).2
    refine hnew b (by omega) (fun e' => hdis b e' e) hb
  · refine ⟨hg4.os.trans (hg3.os.trans hgr.os), hg4.tape.trans (hg3.tape.trans hgr.tape), hg4.output.trans (hg3.output.trans hgr.output), by rw [hs5]; have := hgr.size; omega, fun b hb hne => ?_⟩
    have hbr := hgr.size
    rw [Below.heap_setCell _ _ _ _ (by show b ≠ N; omega), hg4.block b (by simp; omega) (fun e => by have := (hown b e.symm).1; omega), heap_alloc_old _ _ (by omega), hg3.block b (by omega) hne, hgr.block b hb hne]

set_option maxRecDepth 100000 in
set_option maxHeartbeats 8000000 in
theorem dict_any (d : Nat) (ih : Hid (ValIs d)) (w : World) (rb : Nat) (b : UInt8) (bs : List UInt8) (h : RdAt w rb (b :: bs)) (hE : Env w) (hrb : gTop ≤ rb) (r : Option ((List Va × List ByteArray) × List UInt8)) (hres : pairsP (valP d) (bs.length + 1) bs [] [] = r) (hd : d ≤ 100) :
    Calls Tryz.prog 105 #[.pointer (some ⟨rb, 0, none⟩), .int .i64 ((d : Int) + 1)] w (Ends rb (r.map fun p => (.mk 4 0 ⟨#[]⟩ p.1.1 p.1.2, p.2)) (VNew w) w) := by
  have hlt := h.lt
  have hbl : (b :: bs).length ≤ 1000000000 := by obtain ⟨_, _, _, _, hl⟩ := h; exact hl
  have hO := fun (W : World) (hW : Below w.heap.size w W) => open_any ((d : Int) + 1) W rb b bs (h.below hW) (by omega)
  have HO := hide hO; have HE := hide hE; have HRES := hide hres; have HBL := hide hbl
  clear h hE hres hO hbl
  go_enter Tryz.func105, Tryz.ntmps105
  go_wp2_with fail
  refine ((unhide HO) _ ((Below.refl _ _).alloc (Nat.le_refl _) _)).mono ?_; rintro e w1 ⟨_, rfl, rfl, hr1, hg1⟩
  have HH1 : Hid (w1.heap[w.heap.size]? = some (.cells zeroCells 66 (0, 0))) := by
    show w1.heap[w.heap.size]? = _
    rw [hg1.block w.heap.size (by simp) (by simp; omega)]
    exact heap_alloc_new _ _
  have HG1 : Hid (w.grownBy w1 (some rb)) := World.grownBy.trans (World.grownBy_alloc w _ (some rb)) hg1
  have hz1 : w.heap.size < w1.heap.size := by have := hg1.size; simp at this; omega
  have HR1 := hide hr1
  clear hr1 hg1
  go_wp2_with fail
  go_loopg [14] (bs.length + 1) (fun g s14 wx => DictAt w rb w1.heap.size r d g wx)
  case atStart =>
    refine ⟨bs, [], [], .slice none 0 0, .slice none 0 0, by omega, (unhide HR1).below ((Below.refl _ _).alloc (Nat.le_refl _) _), unhide HRES, ?_, heap_alloc_new _ _, ⟨[], World.ownsRow_nil _ _ _ _, fun i x hx => by simp at hx⟩, ⟨World.ownsRow_nil _ _ _ _, fun i x hx => by simp at hx⟩, (fun b hb => by simp [Value.ownBlock] at hb), World.grownBy.trans (unhide HG1) (World.grownBy_alloc _ _ _), ?_, rfl⟩
    · rw [heap_alloc_old _ _ hz1]; exact unhide HH1
    · have := unhide HBL; simp at this ⊢; omega
  case round =>
    obtain ⟨bs2, acc, ks, vL, vK, hlg, hrd, hel, hz, hbox, hown, hok, hdis, hgr, hle, hkl⟩ := hrel
    cases gk with
    | zero => omega
    | succ g =>
      cases bs2 with
      | nil =>
        have HC := hide (closes_nil wr rb hrd)
        simp only [pairsP] at hel
        subst hel
        have HGR := hide hgr
        clear hrd hz hbox hown hgr hok hdis
        go_wp2_with fail
        refine (unhide HC).mono ?_; rintro e w2 ⟨rfl, hg2⟩
        go_wp2_with fail
        exact ⟨rfl, rfl, grownTrans (unhide HGR) hg2⟩
      | cons b2 r2 =>
        by_cases hb2 : b2.toNat = 101
        · have HC := hide (closes_yes wr rb b2 r2 hrd hb2)
          simp only [pairsP, if_pos hb2] at hel
          subst hel
          obtain ⟨A, c, bb, o, vv, hv, hA, h5, hat⟩ := own_in hown.one
          obtain ⟨A', c', bk, hvk, hA', hkat⟩ := keys_in hok
          subst hv hvk
          have H5 := hide h5; have HAT := hide hat; have HGR := hide hgr; have HZ := hide hz; have HBX := hide hbox; have HLE := hide hle; have HAC := hide hA.1; have HCP := hide hA.2; have HAK := hide hA'; have HKAT := hide hkat; have HKL := hide hkl
          have hzr : w1.heap.size < wr.heap.size := lt_of_block hbox
          clear hrd hz hbox hown hgr h5 hat hb2 hle hA hlg hok hdis hA' hkat hkl
          go_wp2_with fail
          refine (unhide HC).mono ?_; rintro e w2 ⟨_, rfl, rfl, hr2, hg2⟩
          have hz2 : w2.heap[w.heap.size]? = some (.cells zeroCells 66 (0, 0)) := (hg2.block w.heap.size (by omega) (by simp; omega)).trans (unhide HZ)
          have hb2 : w2.heap[w1.heap.size]? = some (.cells (boxL 4 (.slice A acc.length c) (.slice A' ks.length c')) 66 (0, 0)) := (hg2.block w1.heap.size hzr (by simp; omega)).trans (unhide HBX)
          have f0 := (boxAt hz2 0).1; have f1 := (boxAt hz2 1).1; have f2 := (boxAt hz2 2).1; have f3 := (boxAt hz2 3).1; have f4 := (boxAt hz2 4).1
          have g0 := (boxAt hz2 0).2; have g1 := (boxAt hz2 1).2; have g2 := (boxAt hz2 2).2; have g3 := (boxAt hz2 3).2; have g4 := (boxAt hz2 4).2
          have k0 := (boxAt hb2 0).1; have k1 := (boxAt hb2 1).1; have k2 := (boxAt hb2 2).1; have k3 := (boxAt hb2 3).1; have k4 := (boxAt hb2 4).1
          simp at f0 f1 f2 f3 f4 k0 k1 k2 k3 k4
          have HR2 := hide hr2; have HG2 := hide hg2
          have hz3 : w1.heap.size < w2.heap.size := by have := hg2.size; omega
          clear hz2 hb2 hr2 hg2
          go_wp2_with fail
          refine bodyPost_ret (v := vaV 4 0 ⟨#[]⟩ A acc.length c A' ks.length c') (by simp [results, Tryz.results105, go_sem, f0, f1, f2, f3, f4]) rfl ⟨_, rfl, ?_, (unhide HR2).keep (below5 (by omega) _ _ _ _ _), set5 (grownTrans (unhide HGR) (unhide HG2)) (Nat.le_refl _) _ _ _ _ _⟩
          have hv0 : VIn wr (fun b => w1.heap.size < b ∧ b < wr.heap.size) (.mk 4 0 ⟨#[]⟩ acc ks) (vaV 4 0 ⟨#[]⟩ A acc.length c A' ks.length c') :=
            .mk 4 0 ⟨#[]⟩ acc ks A c A' c' ⟨by decide, by decide⟩ ⟨by decide, by decide⟩ (by decide) (by have := unhide HLE; omega) (by have := unhide HLE; have := unhide HKL; omega) (unhide HAC) (unhide HAK) (unhide HCP) bb o vv (unhide H5) (unhide HAT) bk 0 (unhide HKAT)
          refine hv0.keep (fun b hb => ⟨by omega, ?_⟩) fun b hb => ?_
          · rw [set5_size]; have := (unhide HG2).size; omega
          · rw [set5_block (by omega)]; exact (unhide HG2).block b hb.2 (by simp; omega)
        · have HC := hide (closes_no wr rb b2 r2 hrd hb2)
          have hT := text_any' wr rb (b2 :: r2) hrd ((unhide HE).grown hgr (by omega) hrb) (by have := hgr.size; omega) hrb
          simp only [pairsP, if_neg hb2] at hel
          cases ht : textP (b2 :: r2) with
          | none =>
            rw [ht] at hel hT
            simp only at hel
            subst hel
            have HT : Hid (Calls Tryz.prog 106 #[.pointer (some ⟨rb, 0, none⟩)] wr (Dead rb wr)) := hT
            have HGR := hide hgr
            clear hT ht hb2 hrd hz hbox hown hgr hle hlg hok hdis hkl
            go_wp2_with fail
            refine (unhide HC).mono ?_; rintro e w2 ⟨rfl, rfl⟩
            go_wp2_with fail
            refine (unhide HT).mono ?_; rintro e w3 ⟨rfl, hg3⟩
            go_wp2_with fail
            exact ⟨rfl, rfl, grownTrans (unhide HGR) hg3⟩
          | some p =>
            obtain ⟨kl, q0⟩ := p
            rw [ht] at hel hT
            simp only at hel
            obtain ⟨hq0, hkz⟩ := textP_len ht
            have hks : (⟨kl.toArray⟩ : ByteArray).size ≤ 1000000000 := by
              have : (⟨kl.toArray⟩ : ByteArray).size = kl.length := by show kl.toArray.size = _; simp
              omega
            have HT : Hid (Calls Tryz.prog 106 #[.pointer (some ⟨rb, 0, none⟩)] wr (Took rb q0 (fun v _ => v = .string ⟨kl.toArray⟩) wr)) := hT
            generalize (⟨kl.toArray⟩ : ByteArray) = key at hel HT hks
            have hrl := hrd.lt
            have hzr : w1.heap.size < wr.heap.size := lt_of_block hbox
            obtain ⟨i1, hi1, hy0, hy1, hy2⟩ := info_parts infoStr
            obtain ⟨A', c', bk, hvk, hA', hkat⟩ := keys_in hok
            subst hvk
            have hkb := hok.1.lt
            have HOWN := hide hown; have HOK := hide hok; have HDIS := hide hdis; have HGR := hide hgr; have HZ := hide hz; have HBX := hide hbox; have HLE := hide hle; have HKL := hide hkl; have HEL := hide hel; have HQ0 := hide hq0; have HLG := hide hlg; have HKB := hide hkb; have HKS := hide hks
            clear hT ht hb2 hrd hz hbox hown hgr hle hlg hok hdis hkl hel hq0 hA' hkz hkb hks
            rcases list_end ks with rfl | ⟨ks', p, rfl⟩
            · have HELK : Hid (pairsK d g q0 acc ([] ++ [key]) = r) := unhide HEL
              clear hkat HEL
              go_wp2_with fail
              refine (unhide HC).mono ?_; rintro e w2 ⟨rfl, rfl⟩
              go_wp2_with fail
              refine (unhide HT).mono ?_; rintro e w3 ⟨_, rfl, rfl, hr3, hg3⟩
              have HG3 := hide hg3; have HR3 := hide hr3
              have hb3 : w3.heap[w1.heap.size]? = some (.cells (boxL 4 vL (.slice A' ([] : List ByteArray).length c')) 66 (0, 0)) := (hg3.block w1.heap.size hzr (by simp; omega)).trans (unhide HBX)
              have k4 := (boxAt hb3 4).1
              have k4f := (boxAt hb3 4).2
              simp at k4
              have hzr3 : w1.heap.size < w3.heap.size := Nat.lt_of_lt_of_le hzr hg3.size
              have HO3 : Hid (w3.ownsRow (w1.heap.size + 1) 9 1 (.slice A' ([] : List ByteArray).length c') ([] : List ByteArray).length (([] : List ByteArray).map Value.string)) := (unhide HOK).1.kept hg3 (.inr fun e => by have := ((unhide HKB) _ e).1; omega)
              clear hr3 hg3 hb3
              go_wp2_with (at_builtin; refine wpList_append_own_at _ rfl _ _ 64 rfl (w1.heap.size + 1) 9 i1 (.string ⟨#[]⟩) 1 16 Tryz.underlying64 hi1 hy0 hy1 hy2 rfl (by decide) _ _ _ rfl (World.ownsRow.alloc (unhide HO3) _) ⟨_, 0, none⟩ 1 1 [.string key] rfl rfl ?c1 ?c2 ?c3 ?c4 ?c5 ?_)
              case c1 => exact cell_one_new _ _ _
              case c2 => simp [Value.oneCell']
              case c3 => have := unhide HLE; have := unhide HKL; unfold maxLen; first | omega | (simp at *; omega) | (simp at *; done)
              case c4 => have := unhide HLE; have := unhide HKL; first | omega | (simp at *; omega) | (simp at *; done)
              case c5 => simp; omega
              intro v4 w4 hown4 hg4 _ hat4
              obtain ⟨g4, cap4, hv4, hg41, hg42⟩ := hown4.form (Nat.succ_pos _)
              have hv5 : ∃ m4, v4 = .slice (some ⟨g4, 0, none⟩) m4 cap4 := ⟨_, hv4⟩
              clear hv4
              obtain ⟨m4, hv4⟩ := hv5
              have hr4 : some w1.heap.size ≠ ((.slice A' ([] : List ByteArray).length c') : Value).ownBlock := fun e => by have := ((unhide HKB) _ e.symm).1; omega
              have c4f : w4.frozen? ⟨w1.heap.size, 4, none⟩ = false := (hg4.frozen_far ⟨w1.heap.size, 4, none⟩ (by simp; omega) hr4).trans ((((Below.refl w3.heap.size w3).alloc (Nat.le_refl _) _).frozen (p := ⟨w1.heap.size, 4, none⟩) hzr3).trans k4f)
              have c4 : w4.cell? ⟨w1.heap.size, 4, none⟩ = some (.slice A' ([] : List ByteArray).length c') := (hg4.cell_far ⟨w1.heap.size, 4, none⟩ (by simp; omega) hr4).trans ((World.cell?_alloc_lt _ _ _ hzr3).trans k4)
              have HM := hide (dict_key (key := key) hlt hz1 (unhide HLG) (unhide HQ0) (unhide HKS) (unhide HLE) (unhide HR3) (unhide HELK) (unhide HZ) (unhide HBX) (unhide HOWN) (unhide HOK) (unhide HDIS) (unhide HKL) (unhide HGR) (unhide HG3) (ownCast hown4 (by simp) (by simp)) hg4 hat4)
              clear hown4 hg4 hat4 k4 k4f
              subst hv4
              go_wp2_with fail
              revert HM
              generalize (w4.setCell ⟨w1.heap.size, 4, none⟩ (.slice (some ⟨g4, 0, none⟩) m4 cap4)) = wm
              generalize (Value.slice (some ⟨g4, 0, none⟩) m4 cap4) = vM
              intro HM
              clear c4 c4f hg41 hg42 hr4 hzr3 HO3 HG3 HR3 HT HC HKB HBX HZ HOK HDIS HGR HKL
              obtain ⟨hlg, hrd, hel, hz, hbox, hown, hok, hdis, hgr, hle, hkl⟩ := unhide HM
              have hV := fun (W : World) (hW : Below wm.heap.size wm W) => (unhide ih) W rb q0 (hrd.below hW) (((unhide HE).grown hgr (by omega) hrb).along (hW.mono (by have := hrd.lt; omega))) hrb
              unfold pairsK at hel
              cases hq : valP d q0 with
              | none =>
                rw [hq] at hel
                simp only at hel
                subst hel
                rw [hq] at hV
                have HV : Hid (∀ W, Below wm.heap.size wm W → Calls Tryz.prog 59 #[.pointer (some ⟨rb, 0, none⟩), .int .i64 (d : Int)] W (Dead rb W)) := hV
                have HGR := hide hgr
                have k3 := (boxAt hbox 3).1
                simp at k3
                have hdw : IntKind.i64.wrap (d : Int) = (d : Int) := IntWalk.i64_in _ (by omega)
                clear hV hq hrd hz hbox hown hgr hle hlg hok hdis hkl HM HLE HLG HQ0 HKS HELK HOWN
                refine wp_region_held_drew (S := fun W => W.cell? ⟨w1.heap.size, 3, none⟩ = some vL) (by kernel_rfl) k3 (fun hHeld => ?_)
                refine wpAnyH_take (i := 0) (v := ?_) rfl (by kernel_rfl) (by kernel_rfl) (by kernel_rfl) (fun _ _ _ h => h) (Or.inl ⟨by rfl, ?_⟩) (by assumption) ?_
                rotate_left
                · intro W hSW
                  try dsimp only at hSW
                  go_simp
                  try with_reducible rfl
                try simp only [Act.put, List.setIfInBounds_toArray, List.set_cons_zero, List.set_cons_succ]
                refine wpAnyH_take (i := 1) (v := ?_) rfl (by kernel_rfl) (by kernel_rfl) (by kernel_rfl) (fun _ _ _ h => h) (Or.inl ⟨by rfl, ?_⟩) (by assumption) ?_
                rotate_left
                · intro W hSW
                  try dsimp only at hSW
                  go_simp
                  try with_reducible rfl
                try simp only [Act.put, List.setIfInBounds_toArray, List.set_cons_zero, List.set_cons_succ]
                refine wpAnyH_take (i := 2) (v := ?_) rfl (by kernel_rfl) (by kernel_rfl) (by kernel_rfl) (fun _ _ _ h => h) (Or.inl ⟨by rfl, ?_⟩) (by assumption) ?_
                rotate_left
                · intro W hSW
                  try dsimp only at hSW
                  go_simp
                  try with_reducible rfl
                try simp only [Act.put, List.setIfInBounds_toArray, List.set_cons_zero, List.set_cons_succ]
                refine wpAnyH_take (i := 3) (v := ?_) rfl (by kernel_rfl) (by kernel_rfl) (by kernel_rfl) (fun _ _ _ h => h) (Or.inl ⟨by rfl, ?_⟩) (by assumption) ?_
                rotate_left
                · intro W hSW
                  try dsimp only at hSW
                  go_simp
                  try with_reducible rfl
                try simp only [Act.put, List.setIfInBounds_toArray, List.set_cons_zero, List.set_cons_succ]
                refine wpAnyH_take (i := 4) (v := ?_) rfl (by kernel_rfl) (by kernel_rfl) (by kernel_rfl) (fun _ _ _ h => h) (Or.inl ⟨by rfl, ?_⟩) (by assumption) ?_
                rotate_left
                · intro W hSW
                  try dsimp only at hSW
                  go_simp
                  try with_reducible rfl
                try simp only [Act.put, List.setIfInBounds_toArray, List.set_cons_zero, List.set_cons_succ]
                refine wpAnyH_ready (rs := [5]) (by kernel_rfl) (by simp) ?_
                refine AllReadyH.cons (o := { dst := some 44, op := .call { callee := .value (.func 59), args := #[.tmp 41, .tmp 43], argTypes := #[140, 3] }, type := 66, pos := "read.go:52", after := #[{ on := 2, ground := .data }, { on := 4, ground := .data }], guard := none }) rfl (fun K hK => ?_) AllReadyH.nil
                clear hHeld
                go_simp
                refine ((unhide HV) _ (belowDrewN 1 (Below.refl _ _))).mono ?_; rintro e w3 ⟨rfl, hg3⟩
                go_wp2_with fail
                exact ⟨rfl, rfl, grownTrans (unhide HGR) (grownDrew hg3)⟩
              | some p =>
                obtain ⟨x, q⟩ := p
                rw [hq] at hel hV
                simp only at hel
                have HV : Hid (∀ W, Below wm.heap.size wm W → Calls Tryz.prog 59 #[.pointer (some ⟨rb, 0, none⟩), .int .i64 (d : Int)] W (Took rb q (VNew W x) W)) := hV
                obtain ⟨xs, how, hels⟩ := hown
                obtain ⟨i0, hi, hz0', hz1', hz2'⟩ := info_parts infoVal
                have k3 := (boxAt hbox 3).1
                have k3f := (boxAt hbox 3).2
                simp at k3
                have hdw : IntKind.i64.wrap (d : Int) = (d : Int) := IntWalk.i64_in _ (by omega)
                have hzr : w1.heap.size < wm.heap.size := lt_of_block hbox
                have hql := valP_len d _ _ _ hq
                have hrl := hrd.lt
                have hne := how.lt
                clear HLE HLG HQ0 HKS HELK HOWN HM
                have HOW := hide how; have HELS := hide hels; have HGR := hide hgr; have HZ := hide hz; have HBX := hide hbox; have HLE := hide hle; have HNE := hide hne; have HEL := hide hel; have HQL := hide hql; have HLG := hide hlg; have HOK := hide hok; have HDIS := hide hdis; have HKL := hide hkl
                clear hV hq hrd hz hbox hgr hle hlg how hels hne hel hql hok hdis hkl
                refine wp_region_held_drew (S := fun W => W.frozen? ⟨w1.heap.size, 3, none⟩ = false) (by kernel_rfl) k3f (fun hHeld => ?_)
                refine wpAnyH_take (i := 0) (v := ?_) rfl (by kernel_rfl) (by kernel_rfl) (by kernel_rfl) (fun _ _ _ h => h) (Or.inl ⟨by rfl, ?_⟩) (by assumption) ?_
                rotate_left
                · intro W hSW
                  try dsimp only at hSW
                  go_simp
                  try with_reducible rfl
                try simp only [Act.put, List.setIfInBounds_toArray, List.set_cons_zero, List.set_cons_succ]
                refine wpAnyH_take (i := 2) (v := ?_) rfl (by kernel_rfl) (by kernel_rfl) (by kernel_rfl) (fun _ _ _ h => h) (Or.inl ⟨by rfl, ?_⟩) (by assumption) ?_
                rotate_left
                · intro W hSW
                  try dsimp only at hSW
                  go_simp
                  try with_reducible rfl
                try simp only [Act.put, List.setIfInBounds_toArray, List.set_cons_zero, List.set_cons_succ]
                refine wpAnyH_take (i := 3) (v := ?_) rfl (by kernel_rfl) (by kernel_rfl) (by kernel_rfl) (fun _ _ _ h => h) (Or.inl ⟨by rfl, ?_⟩) (by assumption) ?_
                rotate_left
                · intro W hSW
                  try dsimp only at hSW
                  go_simp
                  try with_reducible rfl
                try simp only [Act.put, List.setIfInBounds_toArray, List.set_cons_zero, List.set_cons_succ]
                refine wpAnyH_take (i := 4) (v := ?_) rfl (by kernel_rfl) (by kernel_rfl) (by kernel_rfl) (fun _ _ _ h => h) (Or.inl ⟨by rfl, ?_⟩) (by assumption) ?_
                rotate_left
                · intro W hSW
                  try dsimp only at hSW
                  go_simp
                  try with_reducible rfl
                try simp only [Act.put, List.setIfInBounds_toArray, List.set_cons_zero, List.set_cons_succ]
                refine wpAnyH_ready (rs := [1, 5]) (by kernel_rfl) (by simp) ?_
                refine AllReadyH.cons (o := { dst := some 40, op := .load 63 (.tmp 39), type := 63, pos := "read.go:52", after := #[{ on := 0, ground := .data }], guard := none }) rfl (fun K hK => ?_) (AllReadyH.cons (o := { dst := some 44, op := .call { callee := .value (.func 59), args := #[.tmp 41, .tmp 43], argTypes := #[140, 3] }, type := 66, pos := "read.go:52", after := #[{ on := 2, ground := .data }, { on := 4, ground := .data }], guard := none }) rfl (fun K hK => ?_) AllReadyH.nil)
                · go_simp
                  refine hK.out _ _ ?_ (fun hHeld => ?_)
                  · exact k3f
                  clear hK K
                  try simp only [Act.put, List.setIfInBounds_toArray, List.set_cons_zero, List.set_cons_succ]
                  refine wpAnyH_ready (rs := [5]) (by kernel_rfl) (by simp) ?_
                  refine AllReadyH.cons (o := { dst := some 44, op := .call { callee := .value (.func 59), args := #[.tmp 41, .tmp 43], argTypes := #[140, 3] }, type := 66, pos := "read.go:52", after := #[{ on := 2, ground := .data }, { on := 4, ground := .data }], guard := none }) rfl (fun K hK => ?_) AllReadyH.nil
                  go_simp
                  refine ((unhide HV) _ (belowDrewN 1 (Below.refl _ _))).mono ?_; rintro e w3 ⟨v, rfl, hv, hr3, hg3⟩; obtain ⟨e1, e2, e3, e4, e5, e6, e7, e8, e9, rfl⟩ := VIn.form hv
                  have hz3 : w1.heap.size < w3.heap.size := Nat.lt_of_lt_of_le hzr hg3.size
                  have c3 : w3.cell? ⟨w1.heap.size, 3, none⟩ = some vL := (hg3.cell_far ⟨w1.heap.size, 3, none⟩ hzr (by simp; omega)).trans k3
                  have c3f : w3.frozen? ⟨w1.heap.size, 3, none⟩ = false := (hg3.frozen_far ⟨w1.heap.size, 3, none⟩ hzr (by simp; omega)).trans k3f
                  refine hK.out _ _ ?_ (fun hHeld => ?_)
                  · exact c3f
                  clear hK K
                  try simp only [Act.put, List.setIfInBounds_toArray, List.set_cons_zero, List.set_cons_succ]
                  refine wpAnyH_ready (rs := [6]) (by kernel_rfl) (by simp) ?_
                  refine AllReadyH.cons (o := { dst := some 45, op := .buildSlice 63 1 #[(0, .tmp 44)], type := 63, pos := "read.go:52", after := #[{ on := 5, ground := .data }], guard := none }) rfl (fun K hK => ?_) AllReadyH.nil
                  go_simp
                  refine hK.out _ _ ?_ (fun hHeld => ?_)
                  · exact (((Below.refl w3.heap.size w3).alloc (Nat.le_refl _) _).frozen (p := ⟨w1.heap.size, 3, none⟩) hz3).trans c3f
                  clear hK K
                  try simp only [Act.put, List.setIfInBounds_toArray, List.set_cons_zero, List.set_cons_succ]
                  refine wpAnyH_ready (rs := [7]) (by kernel_rfl) (by simp) ?_
                  refine AllReadyH.cons (o := { dst := some 46, op := .call { callee := .builtin .append, args := #[.tmp 40, .tmp 45], argTypes := #[63, 63] }, type := 63, pos := "read.go:52", after := #[{ on := 1, ground := .data }, { on := 6, ground := .data }, { on := 5, ground := .chain }], guard := none }) rfl (fun K hK => ?_) AllReadyH.nil
                  refine step_append_at _ (by rfl) _ _ _ (by rfl) (w1.heap.size + 1) 66 i0 _ 5 80 Tryz.underlying63 hi hz0' hz1' hz2' rfl (by omega) vL acc.length xs (by rfl)
                     (World.ownsRow.alloc ((unhide HOW).kept (grownDrew hg3) (by right; intro e; have := (unhide HNE) _ e; omega)) _)
                     ⟨w3.heap.size, 0, none⟩ 1 1 [.int .i64 e1, .int .i64 e2, .string e3, .slice e4 e5 e6, .slice e7 e8 e9] (by rfl) (by rfl) (World.news_of_block (cs := #[.int .i64 e1, .int .i64 e2, .string e3, .slice e4 e5 e6, .slice e7 e8 e9]) (t := 66) (fr := (0, 0)) (heap_alloc_new w3 _)) (by simp [Value.oneCell'])
                     (by have := unhide HLE; unfold maxLen; omega) (by have := unhide HLE; omega) (by simp; omega) ?_
                  intro v4 w4 hown4 hg4 hrow4 hat4
                  obtain ⟨g4, cap4, rfl, hg41, hg42⟩ := hown4.form (by omega)
                  have hr4 : some w1.heap.size ≠ vL.ownBlock := fun e => by have := ((unhide HNE) _ e.symm).1; omega
                  have c4 : w4.cell? ⟨w1.heap.size, 3, none⟩ = some vL := (hg4.cell_far ⟨w1.heap.size, 3, none⟩ (by simp; omega) hr4).trans ((World.cell?_alloc_lt _ _ _ hz3).trans c3)
                  have c4f : w4.frozen? ⟨w1.heap.size, 3, none⟩ = false := (hg4.frozen_far ⟨w1.heap.size, 3, none⟩ (by simp; omega) hr4).trans ((((Below.refl w3.heap.size w3).alloc (Nat.le_refl _) _).frozen (p := ⟨w1.heap.size, 3, none⟩) hz3).trans c3f)
                  refine hK.out _ _ ?_ (fun hHeld => ?_)
                  · exact c4f
                  clear hK K
                  try simp only [Act.put, List.setIfInBounds_toArray, List.set_cons_zero, List.set_cons_succ]
                  refine wpAnyH_take (i := 8) (v := ?_) rfl (by kernel_rfl) (by kernel_rfl) (by kernel_rfl) (fun _ _ _ h => h) (Or.inl ⟨by rfl, ?_⟩) (by assumption) ?_
                  rotate_left
                  · intro W hSW
                    try dsimp only at hSW
                    go_simp
                    try with_reducible rfl
                  try simp only [Act.put, List.setIfInBounds_toArray, List.set_cons_zero, List.set_cons_succ]
                  refine wpAnyH_ready (rs := [9]) (by kernel_rfl) (by simp) ?_
                  refine AllReadyH.cons rfl (fun K hK => ?_) AllReadyH.nil
                  go_simp
                  refine hK.out _ _ ?_ (fun hHeld => ?_)
                  · exact (World.frozen?_setCell _ _ _ _).trans c4f
                  clear hK K
                  try simp only [Act.put, List.setIfInBounds_toArray, List.set_cons_zero, List.set_cons_succ]
                  refine wpAnyH_done (by kernel_rfl) ?_ _
                  go_wp2_with fail
                  go_roundg g
                  case measure => omega
                  case rel => exact dict_round hlt hz1 (unhide HLG) (unhide HQL) (unhide HLE) hr3 (unhide HEL) (unhide HZ) (unhide HBX) (unhide HOW) (unhide HELS) (unhide HOK) (unhide HDIS) (unhide HKL) (unhide HGR) (grownDrew hg3) hv hown4 hg4 hat4
                · go_simp
                  refine ((unhide HV) _ (belowDrewN 1 (Below.refl _ _))).mono ?_; rintro e w3 ⟨v, rfl, hv, hr3, hg3⟩; obtain ⟨e1, e2, e3, e4, e5, e6, e7, e8, e9, rfl⟩ := VIn.form hv
                  have hz3 : w1.heap.size < w3.heap.size := Nat.lt_of_lt_of_le hzr hg3.size
                  have c3 : w3.cell? ⟨w1.heap.size, 3, none⟩ = some vL := (hg3.cell_far ⟨w1.heap.size, 3, none⟩ hzr (by simp; omega)).trans k3
                  have c3f : w3.frozen? ⟨w1.heap.size, 3, none⟩ = false := (hg3.frozen_far ⟨w1.heap.size, 3, none⟩ hzr (by simp; omega)).trans k3f
                  refine hK.out _ _ ?_ (fun hHeld => ?_)
                  · exact c3f
                  clear hK K
                  try simp only [Act.put, List.setIfInBounds_toArray, List.set_cons_zero, List.set_cons_succ]
                  refine wpAnyH_ready (rs := [1, 6]) (by kernel_rfl) (by simp) ?_
                  refine AllReadyH.cons (o := { dst := some 40, op := .load 63 (.tmp 39), type := 63, pos := "read.go:52", after := #[{ on := 0, ground := .data }], guard := none }) rfl (fun K hK => ?_) (AllReadyH.cons (o := { dst := some 45, op := .buildSlice 63 1 #[(0, .tmp 44)], type := 63, pos := "read.go:52", after := #[{ on := 5, ground := .data }], guard := none }) rfl (fun K hK => ?_) AllReadyH.nil)
                  · go_simp
                    refine hK.out _ _ ?_ (fun hHeld => ?_)
                    · exact c3f
                    clear hK K
                    try simp only [Act.put, List.setIfInBounds_toArray, List.set_cons_zero, List.set_cons_succ]
                    refine wpAnyH_ready (rs := [6]) (by kernel_rfl) (by simp) ?_
                    refine AllReadyH.cons (o := { dst := some 45, op := .buildSlice 63 1 #[(0, .tmp 44)], type := 63, pos := "read.go:52", after := #[{ on := 5, ground := .data }], guard := none }) rfl (fun K hK => ?_) AllReadyH.nil
                    go_simp
                    refine hK.out _ _ ?_ (fun hHeld => ?_)
                    · exact (((Below.refl w3.heap.size w3).alloc (Nat.le_refl _) _).frozen (p := ⟨w1.heap.size, 3, none⟩) hz3).trans c3f
                    clear hK K
                    try simp only [Act.put, List.setIfInBounds_toArray, List.set_cons_zero, List.set_cons_succ]
                    refine wpAnyH_ready (rs := [7]) (by kernel_rfl) (by simp) ?_
                    refine AllReadyH.cons (o := { dst := some 46, op := .call { callee := .builtin .append, args := #[.tmp 40, .tmp 45], argTypes := #[63, 63] }, type := 63, pos := "read.go:52", after := #[{ on := 1, ground := .data }, { on := 6, ground := .data }, { on := 5, ground := .chain }], guard := none }) rfl (fun K hK => ?_) AllReadyH.nil
                    refine step_append_at _ (by rfl) _ _ _ (by rfl) (w1.heap.size + 1) 66 i0 _ 5 80 Tryz.underlying63 hi hz0' hz1' hz2' rfl (by omega) vL acc.length xs (by rfl)
                       (World.ownsRow.alloc ((unhide HOW).kept (grownDrew hg3) (by right; intro e; have := (unhide HNE) _ e; omega)) _)
                       ⟨w3.heap.size, 0, none⟩ 1 1 [.int .i64 e1, .int .i64 e2, .string e3, .slice e4 e5 e6, .slice e7 e8 e9] (by rfl) (by rfl) (World.news_of_block (cs := #[.int .i64 e1, .int .i64 e2, .string e3, .slice e4 e5 e6, .slice e7 e8 e9]) (t := 66) (fr := (0, 0)) (heap_alloc_new w3 _)) (by simp [Value.oneCell'])
                       (by have := unhide HLE; unfold maxLen; omega) (by have := unhide HLE; omega) (by simp; omega) ?_
                    intro v4 w4 hown4 hg4 hrow4 hat4
                    obtain ⟨g4, cap4, rfl, hg41, hg42⟩ := hown4.form (by omega)
                    have hr4 : some w1.heap.size ≠ vL.ownBlock := fun e => by have := ((unhide HNE) _ e.symm).1; omega
                    have c4 : w4.cell? ⟨w1.heap.size, 3, none⟩ = some vL := (hg4.cell_far ⟨w1.heap.size, 3, none⟩ (by simp; omega) hr4).trans ((World.cell?_alloc_lt _ _ _ hz3).trans c3)
                    have c4f : w4.frozen? ⟨w1.heap.size, 3, none⟩ = false := (hg4.frozen_far ⟨w1.heap.size, 3, none⟩ (by simp; omega) hr4).trans ((((Below.refl w3.heap.size w3).alloc (Nat.le_refl _) _).frozen (p := ⟨w1.heap.size, 3, none⟩) hz3).trans c3f)
                    refine hK.out _ _ ?_ (fun hHeld => ?_)
                    · exact c4f
                    clear hK K
                    try simp only [Act.put, List.setIfInBounds_toArray, List.set_cons_zero, List.set_cons_succ]
                    refine wpAnyH_take (i := 8) (v := ?_) rfl (by kernel_rfl) (by kernel_rfl) (by kernel_rfl) (fun _ _ _ h => h) (Or.inl ⟨by rfl, ?_⟩) (by assumption) ?_
                    rotate_left
                    · intro W hSW
                      try dsimp only at hSW
                      go_simp
                      try with_reducible rfl
                    try simp only [Act.put, List.setIfInBounds_toArray, List.set_cons_zero, List.set_cons_succ]
                    refine wpAnyH_ready (rs := [9]) (by kernel_rfl) (by simp) ?_
                    refine AllReadyH.cons rfl (fun K hK => ?_) AllReadyH.nil
                    go_simp
                    refine hK.out _ _ ?_ (fun hHeld => ?_)
                    · exact (World.frozen?_setCell _ _ _ _).trans c4f
                    clear hK K
                    try simp only [Act.put, List.setIfInBounds_toArray, List.set_cons_zero, List.set_cons_succ]
                    refine wpAnyH_done (by kernel_rfl) ?_ _
                    go_wp2_with fail
                    go_roundg g
                    case measure => omega
                    case rel => exact dict_round hlt hz1 (unhide HLG) (unhide HQL) (unhide HLE) hr3 (unhide HEL) (unhide HZ) (unhide HBX) (unhide HOW) (unhide HELS) (unhide HOK) (unhide HDIS) (unhide HKL) (unhide HGR) (grownDrew hg3) hv hown4 hg4 hat4
                  · go_simp
                    refine hK.out _ _ ?_ (fun hHeld => ?_)
                    · exact (((Below.refl w3.heap.size w3).alloc (Nat.le_refl _) _).frozen (p := ⟨w1.heap.size, 3, none⟩) hz3).trans c3f
                    clear hK K
                    try simp only [Act.put, List.setIfInBounds_toArray, List.set_cons_zero, List.set_cons_succ]
                    refine wpAnyH_ready (rs := [1]) (by kernel_rfl) (by simp) ?_
                    refine AllReadyH.cons (o := { dst := some 40, op := .load 63 (.tmp 39), type := 63, pos := "read.go:52", after := #[{ on := 0, ground := .data }], guard := none }) rfl (fun K hK => ?_) AllReadyH.nil
                    go_simp
                    refine hK.out _ _ ?_ (fun hHeld => ?_)
                    · exact (((Below.refl w3.heap.size w3).alloc (Nat.le_refl _) _).frozen (p := ⟨w1.heap.size, 3, none⟩) hz3).trans c3f
                    clear hK K
                    try simp only [Act.put, List.setIfInBounds_toArray, List.set_cons_zero, List.set_cons_succ]
                    refine wpAnyH_ready (rs := [7]) (by kernel_rfl) (by simp) ?_
                    refine AllReadyH.cons (o := { dst := some 46, op := .call { callee := .builtin .append, args := #[.tmp 40, .tmp 45], argTypes := #[63, 63] }, type := 63, pos := "read.go:52", after := #[{ on := 1, ground := .data }, { on := 6, ground := .data }, { on := 5, ground := .chain }], guard := none }) rfl (fun K hK => ?_) AllReadyH.nil
                    refine step_append_at _ (by rfl) _ _ _ (by rfl) (w1.heap.size + 1) 66 i0 _ 5 80 Tryz.underlying63 hi hz0' hz1' hz2' rfl (by omega) vL acc.length xs (by rfl)
                       (World.ownsRow.alloc ((unhide HOW).kept (grownDrew hg3) (by right; intro e; have := (unhide HNE) _ e; omega)) _)
                       ⟨w3.heap.size, 0, none⟩ 1 1 [.int .i64 e1, .int .i64 e2, .string e3, .slice e4 e5 e6, .slice e7 e8 e9] (by rfl) (by rfl) (World.news_of_block (cs := #[.int .i64 e1, .int .i64 e2, .string e3, .slice e4 e5 e6, .slice e7 e8 e9]) (t := 66) (fr := (0, 0)) (heap_alloc_new w3 _)) (by simp [Value.oneCell'])
                       (by have := unhide HLE; unfold maxLen; omega) (by have := unhide HLE; omega) (by simp; omega) ?_
                    intro v4 w4 hown4 hg4 hrow4 hat4
                    obtain ⟨g4, cap4, rfl, hg41, hg42⟩ := hown4.form (by omega)
                    have hr4 : some w1.heap.size ≠ vL.ownBlock := fun e => by have := ((unhide HNE) _ e.symm).1; omega
                    have c4 : w4.cell? ⟨w1.heap.size, 3, none⟩ = some vL := (hg4.cell_far ⟨w1.heap.size, 3, none⟩ (by simp; omega) hr4).trans ((World.cell?_alloc_lt _ _ _ hz3).trans c3)
                    have c4f : w4.frozen? ⟨w1.heap.size, 3, none⟩ = false := (hg4.frozen_far ⟨w1.heap.size, 3, none⟩ (by simp; omega) hr4).trans ((((Below.refl w3.heap.size w3).alloc (Nat.le_refl _) _).frozen (p := ⟨w1.heap.size, 3, none⟩) hz3).trans c3f)
                    refine hK.out _ _ ?_ (fun hHeld => ?_)
                    · exact c4f
                    clear hK K
                    try simp only [Act.put, List.setIfInBounds_toArray, List.set_cons_zero, List.set_cons_succ]
                    refine wpAnyH_take (i := 8) (v := ?_) rfl (by kernel_rfl) (by kernel_rfl) (by kernel_rfl) (fun _ _ _ h => h) (Or.inl ⟨by rfl, ?_⟩) (by assumption) ?_
                    rotate_left
                    · intro W hSW
                      try dsimp only at hSW
                      go_simp
                      try with_reducible rfl
                    try simp only [Act.put, List.setIfInBounds_toArray, List.set_cons_zero, List.set_cons_succ]
                    refine wpAnyH_ready (rs := [9]) (by kernel_rfl) (by simp) ?_
                    refine AllReadyH.cons rfl (fun K hK => ?_) AllReadyH.nil
                    go_simp
                    refine hK.out _ _ ?_ (fun hHeld => ?_)
                    · exact (World.frozen?_setCell _ _ _ _).trans c4f
                    clear hK K
                    try simp only [Act.put, List.setIfInBounds_toArray, List.set_cons_zero, List.set_cons_succ]
                    refine wpAnyH_done (by kernel_rfl) ?_ _
                    go_wp2_with fail
                    go_roundg g
                    case measure => omega
                    case rel => exact dict_round hlt hz1 (unhide HLG) (unhide HQL) (unhide HLE) hr3 (unhide HEL) (unhide HZ) (unhide HBX) (unhide HOW) (unhide HELS) (unhide HOK) (unhide HDIS) (unhide HKL) (unhide HGR) (grownDrew hg3) hv hown4 hg4 hat4
            · obtain ⟨rfl, hkn, hkc, _⟩ := hkat ks'.length p (by simp)
              have hlen : (ks' ++ [p]).length = ks'.length + 1 := by simp
              have HL := hide hlen
              have hlast : IntKind.i64.wrap (ks'.length : Int) = (ks'.length : Int) := IntWalk.i64_in _ (by have := unhide HLE; have := unhide HKL; omega)
              have hlast2 : wrap64 (ks'.length : Int) = (ks'.length : Int) := IntWalk.wrap64_in _ (by have := unhide HLE; have := unhide HKL; omega)
              have hge : (0 : Int) ≤ (ks'.length : Int) := Int.natCast_nonneg _
              have hklt : ks'.length < ks'.length + 1 := by omega
              have hko : keyOk (ks' ++ [p]) key = ltB p key := by simp [keyOk]
              cases hb : ltB p key
              · have hb2 : Op.bytesLess p.toList key.toList = false := hb
                have hel := unhide HEL
                rw [hko, hb] at hel
                simp only [Bool.false_eq_true, if_false] at hel
                subst hel
                clear hkat HEL HOK HDIS HOWN hko hb
                rw [hlen] at HBX HKB
                clear hlen
                go_wp2_with fail
                refine (unhide HC).mono ?_; rintro e w2 ⟨rfl, rfl⟩
                go_wp2_with fail
                refine (unhide HT).mono ?_; rintro e w3 ⟨_, rfl, rfl, hr3, hg3⟩
                have HG3 := hide hg3
                have hb3 : w3.heap[w1.heap.size]? = some (.cells (boxL 4 vL (.slice (some ⟨bk, 0, none⟩) (ks'.length + 1) c')) 66 (0, 0)) := (hg3.block w1.heap.size hzr (by simp; omega)).trans (unhide HBX)
                have k4 := (boxAt hb3 4).1
                simp at k4
                have kc : w3.cell? ⟨bk, 0 + ks'.length, none⟩ = some (.string p) := hg3.cell hkc (fun e => by simp at e; omega)
                simp only [Nat.zero_add] at kc
                clear hr3 hg3 hb3 hkc
                go_wp2_with fail
                exact ⟨rfl, rfl, grownTrans (unhide HGR) (unhide HG3)⟩
              · have hb2 : Op.bytesLess p.toList key.toList = true := hb
                have hel := unhide HEL
                rw [hko, hb] at hel
                simp only [if_true] at hel
                have HELK : Hid (pairsK d g q0 acc (ks' ++ [p] ++ [key]) = r) := hel
                clear hkat HEL hko hb hel
                rw [hlen] at HBX HKB HOK
                clear hlen
                go_wp2_with fail
                refine (unhide HC).mono ?_; rintro e w2 ⟨rfl, rfl⟩
                go_wp2_with fail
                refine (unhide HT).mono ?_; rintro e w3 ⟨_, rfl, rfl, hr3, hg3⟩
                have HG3 := hide hg3; have HR3 := hide hr3
                have hb3 : w3.heap[w1.heap.size]? = some (.cells (boxL 4 vL (.slice (some ⟨bk, 0, none⟩) (ks'.length + 1) c')) 66 (0, 0)) := (hg3.block w1.heap.size hzr (by simp; omega)).trans (unhide HBX)
                have k4 := (boxAt hb3 4).1
                have k4f := (boxAt hb3 4).2
                simp at k4
                have kc : w3.cell? ⟨bk, 0 + ks'.length, none⟩ = some (.string p) := hg3.cell hkc (fun e => by simp at e; omega)
                simp only [Nat.zero_add] at kc
                have hzr3 : w1.heap.size < w3.heap.size := Nat.lt_of_lt_of_le hzr hg3.size
                have HO3 : Hid (w3.ownsRow (w1.heap.size + 1) 9 1 (.slice (some ⟨bk, 0, none⟩) (ks'.length + 1) c') (ks' ++ [p]).length ((ks' ++ [p]).map Value.string)) := (unhide HOK).1.kept hg3 (.inr fun e => by have := ((unhide HKB) _ e).1; omega)
                clear hr3 hg3 hb3
                go_wp2_with (at_builtin; refine wpList_append_own_at _ rfl _ _ 64 rfl (w1.heap.size + 1) 9 i1 (.string ⟨#[]⟩) 1 16 Tryz.underlying64 hi1 hy0 hy1 hy2 rfl (by decide) _ _ _ rfl (World.ownsRow.alloc (unhide HO3) _) ⟨_, 0, none⟩ 1 1 [.string key] rfl rfl ?c1 ?c2 ?c3 ?c4 ?c5 ?_)
                case c1 => exact cell_one_new _ _ _
                case c2 => simp [Value.oneCell']
                case c3 => have := unhide HLE; have := unhide HKL; unfold maxLen; first | omega | (simp at *; omega) | (simp at *; done)
                case c4 => have := unhide HLE; have := unhide HKL; first | omega | (simp at *; omega) | (simp at *; done)
                case c5 => simp; omega
                intro v4 w4 hown4 hg4 _ hat4
                obtain ⟨g4, cap4, hv4, hg41, hg42⟩ := hown4.form (Nat.succ_pos _)
                have hv5 : ∃ m4, v4 = .slice (some ⟨g4, 0, none⟩) m4 cap4 := ⟨_, hv4⟩
                clear hv4
                obtain ⟨m4, hv4⟩ := hv5
                have hr4 : some w1.heap.size ≠ ((.slice (some ⟨bk, 0, none⟩) (ks'.length + 1) c') : Value).ownBlock := fun e => by have := ((unhide HKB) _ e.symm).1; omega
                have c4f : w4.frozen? ⟨w1.heap.size, 4, none⟩ = false := (hg4.frozen_far ⟨w1.heap.size, 4, none⟩ (by simp; omega) hr4).trans ((((Below.refl w3.heap.size w3).alloc (Nat.le_refl _) _).frozen (p := ⟨w1.heap.size, 4, none⟩) hzr3).trans k4f)
                have c4 : w4.cell? ⟨w1.heap.size, 4, none⟩ = some (.slice (some ⟨bk, 0, none⟩) (ks'.length + 1) c') := (hg4.cell_far ⟨w1.heap.size, 4, none⟩ (by simp; omega) hr4).trans ((World.cell?_alloc_lt _ _ _ hzr3).trans k4)
                have HM := hide (dict_key (key := key) hlt hz1 (unhide HLG) (unhide HQ0) (unhide HKS) (unhide HLE) (unhide HR3) (unhide HELK) (unhide HZ) (unhide HBX) (unhide HOWN) (unhide HOK) (unhide HDIS) (unhide HKL) (unhide HGR) (unhide HG3) (ownCast hown4 (by simp) (by simp)) hg4 hat4)
                clear hown4 hg4 hat4 k4 k4f
                subst hv4
                go_wp2_with fail
                revert HM
                generalize (w4.setCell ⟨w1.heap.size, 4, none⟩ (.slice (some ⟨g4, 0, none⟩) m4 cap4)) = wm
                generalize (Value.slice (some ⟨g4, 0, none⟩) m4 cap4) = vM
                intro HM
                clear c4 c4f hg41 hg42 hr4 hzr3 HO3 HG3 HR3 HT HC HKB HBX HZ HOK HDIS HGR HKL
                obtain ⟨hlg, hrd, hel, hz, hbox, hown, hok, hdis, hgr, hle, hkl⟩ := unhide HM
                have hV := fun (W : World) (hW : Below wm.heap.size wm W) => (unhide ih) W rb q0 (hrd.below hW) (((unhide HE).grown hgr (by omega) hrb).along (hW.mono (by have := hrd.lt; omega))) hrb
                unfold pairsK at hel
                cases hq : valP d q0 with
                | none =>
                  rw [hq] at hel
                  simp only at hel
                  subst hel
                  rw [hq] at hV
                  have HV : Hid (∀ W, Below wm.heap.size wm W → Calls Tryz.prog 59 #[.pointer (some ⟨rb, 0, none⟩), .int .i64 (d : Int)] W (Dead rb W)) := hV
                  have HGR := hide hgr
                  have k3 := (boxAt hbox 3).1
                  simp at k3
                  have hdw : IntKind.i64.wrap (d : Int) = (d : Int) := IntWalk.i64_in _ (by omega)
                  clear hV hq hrd hz hbox hown hgr hle hlg hok hdis hkl HM HLE HLG HQ0 HKS HELK HOWN
                  refine wp_region_held_drew (S := fun W => W.cell? ⟨w1.heap.size, 3, none⟩ = some vL) (by kernel_rfl) k3 (fun hHeld => ?_)
                  refine wpAnyH_take (i := 0) (v := ?_) rfl (by kernel_rfl) (by kernel_rfl) (by kernel_rfl) (fun _ _ _ h => h) (Or.inl ⟨by rfl, ?_⟩) (by assumption) ?_
                  rotate_left
                  · intro W hSW
                    try dsimp only at hSW
                    go_simp
                    try with_reducible rfl
                  try simp only [Act.put, List.setIfInBounds_toArray, List.set_cons_zero, List.set_cons_succ]
                  refine wpAnyH_take (i := 1) (v := ?_) rfl (by kernel_rfl) (by kernel_rfl) (by kernel_rfl) (fun _ _ _ h => h) (Or.inl ⟨by rfl, ?_⟩) (by assumption) ?_
                  rotate_left
                  · intro W hSW
                    try dsimp only at hSW
                    go_simp
                    try with_reducible rfl
                  try simp only [Act.put, List.setIfInBounds_toArray, List.set_cons_zero, List.set_cons_succ]
                  refine wpAnyH_take (i := 2) (v := ?_) rfl (by kernel_rfl) (by kernel_rfl) (by kernel_rfl) (fun _ _ _ h => h) (Or.inl ⟨by rfl, ?_⟩) (by assumption) ?_
                  rotate_left
                  · intro W hSW
                    try dsimp only at hSW
                    go_simp
                    try with_reducible rfl
                  try simp only [Act.put, List.setIfInBounds_toArray, List.set_cons_zero, List.set_cons_succ]
                  refine wpAnyH_take (i := 3) (v := ?_) rfl (by kernel_rfl) (by kernel_rfl) (by kernel_rfl) (fun _ _ _ h => h) (Or.inl ⟨by rfl, ?_⟩) (by assumption) ?_
                  rotate_left
                  · intro W hSW
                    try dsimp only at hSW
                    go_simp
                    try with_reducible rfl
                  try simp only [Act.put, List.setIfInBounds_toArray, List.set_cons_zero, List.set_cons_succ]
                  refine wpAnyH_take (i := 4) (v := ?_) rfl (by kernel_rfl) (by kernel_rfl) (by kernel_rfl) (fun _ _ _ h => h) (Or.inl ⟨by rfl, ?_⟩) (by assumption) ?_
                  rotate_left
                  · intro W hSW
                    try dsimp only at hSW
                    go_simp
                    try with_reducible rfl
                  try simp only [Act.put, List.setIfInBounds_toArray, List.set_cons_zero, List.set_cons_succ]
                  refine wpAnyH_ready (rs := [5]) (by kernel_rfl) (by simp) ?_
                  refine AllReadyH.cons (o := { dst := some 44, op := .call { callee := .value (.func 59), args := #[.tmp 41, .tmp 43], argTypes := #[140, 3] }, type := 66, pos := "read.go:52", after := #[{ on := 2, ground := .data }, { on := 4, ground := .data }], guard := none }) rfl (fun K hK => ?_) AllReadyH.nil
                  clear hHeld
                  go_simp
                  refine ((unhide HV) _ (belowDrewN 1 (Below.refl _ _))).mono ?_; rintro e w3 ⟨rfl, hg3⟩
                  go_wp2_with fail
                  exact ⟨rfl, rfl, grownTrans (unhide HGR) (grownDrew hg3)⟩
                | some p =>
                  obtain ⟨x, q⟩ := p
                  rw [hq] at hel hV
                  simp only at hel
                  have HV : Hid (∀ W, Below wm.heap.size wm W → Calls Tryz.prog 59 #[.pointer (some ⟨rb, 0, none⟩), .int .i64 (d : Int)] W (Took rb q (VNew W x) W)) := hV
                  obtain ⟨xs, how, hels⟩ := hown
                  obtain ⟨i0, hi, hz0', hz1', hz2'⟩ := info_parts infoVal
                  have k3 := (boxAt hbox 3).1
                  have k3f := (boxAt hbox 3).2
                  simp at k3
                  have hdw : IntKind.i64.wrap (d : Int) = (d : Int) := IntWalk.i64_in _ (by omega)
                  have hzr : w1.heap.size < wm.heap.size := lt_of_block hbox
                  have hql := valP_len d _ _ _ hq
                  have hrl := hrd.lt
                  have hne := how.lt
                  clear HLE HLG HQ0 HKS HELK HOWN HM
                  have HOW := hide how; have HELS := hide hels; have HGR := hide hgr; have HZ := hide hz; have HBX := hide hbox; have HLE := hide hle; have HNE := hide hne; have HEL := hide hel; have HQL := hide hql; have HLG := hide hlg; have HOK := hide hok; have HDIS := hide hdis; have HKL := hide hkl
                  clear hV hq hrd hz hbox hgr hle hlg how hels hne hel hql hok hdis hkl
                  refine wp_region_held_drew (S := fun W => W.frozen? ⟨w1.heap.size, 3, none⟩ = false) (by kernel_rfl) k3f (fun hHeld => ?_)
                  refine wpAnyH_take (i := 0) (v := ?_) rfl (by kernel_rfl) (by kernel_rfl) (by kernel_rfl) (fun _ _ _ h => h) (Or.inl ⟨by rfl, ?_⟩) (by assumption) ?_
                  rotate_left
                  · intro W hSW
                    try dsimp only at hSW
                    go_simp
                    try with_reducible rfl
                  try simp only [Act.put, List.setIfInBounds_toArray, List.set_cons_zero, List.set_cons_succ]
                  refine wpAnyH_take (i := 2) (v := ?_) rfl (by kernel_rfl) (by kernel_rfl) (by kernel_rfl) (fun _ _ _ h => h) (Or.inl ⟨by rfl, ?_⟩) (by assumption) ?_
                  rotate_left
                  · intro W hSW
                    try dsimp only at hSW
                    go_simp
                    try with_reducible rfl
                  try simp only [Act.put, List.setIfInBounds_toArray, List.set_cons_zero, List.set_cons_succ]
                  refine wpAnyH_take (i := 3) (v := ?_) rfl (by kernel_rfl) (by kernel_rfl) (by kernel_rfl) (fun _ _ _ h => h) (Or.inl ⟨by rfl, ?_⟩) (by assumption) ?_
                  rotate_left
                  · intro W hSW
                    try dsimp only at hSW
                    go_simp
                    try with_reducible rfl
                  try simp only [Act.put, List.setIfInBounds_toArray, List.set_cons_zero, List.set_cons_succ]
                  refine wpAnyH_take (i := 4) (v := ?_) rfl (by kernel_rfl) (by kernel_rfl) (by kernel_rfl) (fun _ _ _ h => h) (Or.inl ⟨by rfl, ?_⟩) (by assumption) ?_
                  rotate_left
                  · intro W hSW
                    try dsimp only at hSW
                    go_simp
                    try with_reducible rfl
                  try simp only [Act.put, List.setIfInBounds_toArray, List.set_cons_zero, List.set_cons_succ]
                  refine wpAnyH_ready (rs := [1, 5]) (by kernel_rfl) (by simp) ?_
                  refine AllReadyH.cons (o := { dst := some 40, op := .load 63 (.tmp 39), type := 63, pos := "read.go:52", after := #[{ on := 0, ground := .data }], guard := none }) rfl (fun K hK => ?_) (AllReadyH.cons (o := { dst := some 44, op := .call { callee := .value (.func 59), args := #[.tmp 41, .tmp 43], argTypes := #[140, 3] }, type := 66, pos := "read.go:52", after := #[{ on := 2, ground := .data }, { on := 4, ground := .data }], guard := none }) rfl (fun K hK => ?_) AllReadyH.nil)
                  · go_simp
                    refine hK.out _ _ ?_ (fun hHeld => ?_)
                    · exact k3f
                    clear hK K
                    try simp only [Act.put, List.setIfInBounds_toArray, List.set_cons_zero, List.set_cons_succ]
                    refine wpAnyH_ready (rs := [5]) (by kernel_rfl) (by simp) ?_
                    refine AllReadyH.cons (o := { dst := some 44, op := .call { callee := .value (.func 59), args := #[.tmp 41, .tmp 43], argTypes := #[140, 3] }, type := 66, pos := "read.go:52", after := #[{ on := 2, ground := .data }, { on := 4, ground := .data }], guard := none }) rfl (fun K hK => ?_) AllReadyH.nil
                    go_simp
                    refine ((unhide HV) _ (belowDrewN 1 (Below.refl _ _))).mono ?_; rintro e w3 ⟨v, rfl, hv, hr3, hg3⟩; obtain ⟨e1, e2, e3, e4, e5, e6, e7, e8, e9, rfl⟩ := VIn.form hv
                    have hz3 : w1.heap.size < w3.heap.size := Nat.lt_of_lt_of_le hzr hg3.size
                    have c3 : w3.cell? ⟨w1.heap.size, 3, none⟩ = some vL := (hg3.cell_far ⟨w1.heap.size, 3, none⟩ hzr (by simp; omega)).trans k3
                    have c3f : w3.frozen? ⟨w1.heap.size, 3, none⟩ = false := (hg3.frozen_far ⟨w1.heap.size, 3, none⟩ hzr (by simp; omega)).trans k3f
                    refine hK.out _ _ ?_ (fun hHeld => ?_)
                    · exact c3f
                    clear hK K
                    try simp only [Act.put, List.setIfInBounds_toArray, List.set_cons_zero, List.set_cons_succ]
                    refine wpAnyH_ready (rs := [6]) (by kernel_rfl) (by simp) ?_
                    refine AllReadyH.cons (o := { dst := some 45, op := .buildSlice 63 1 #[(0, .tmp 44)], type := 63, pos := "read.go:52", after := #[{ on := 5, ground := .data }], guard := none }) rfl (fun K hK => ?_) AllReadyH.nil
                    go_simp
                    refine hK.out _ _ ?_ (fun hHeld => ?_)
                    · exact (((Below.refl w3.heap.size w3).alloc (Nat.le_refl _) _).frozen (p := ⟨w1.heap.size, 3, none⟩) hz3).trans c3f
                    clear hK K
                    try simp only [Act.put, List.setIfInBounds_toArray, List.set_cons_zero, List.set_cons_succ]
                    refine wpAnyH_ready (rs := [7]) (by kernel_rfl) (by simp) ?_
                    refine AllReadyH.cons (o := { dst := some 46, op := .call { callee := .builtin .append, args := #[.tmp 40, .tmp 45], argTypes := #[63, 63] }, type := 63, pos := "read.go:52", after := #[{ on := 1, ground := .data }, { on := 6, ground := .data }, { on := 5, ground := .chain }], guard := none }) rfl (fun K hK => ?_) AllReadyH.nil
                    refine step_append_at _ (by rfl) _ _ _ (by rfl) (w1.heap.size + 1) 66 i0 _ 5 80 Tryz.underlying63 hi hz0' hz1' hz2' rfl (by omega) vL acc.length xs (by rfl)
                       (World.ownsRow.alloc ((unhide HOW).kept (grownDrew hg3) (by right; intro e; have := (unhide HNE) _ e; omega)) _)
                       ⟨w3.heap.size, 0, none⟩ 1 1 [.int .i64 e1, .int .i64 e2, .string e3, .slice e4 e5 e6, .slice e7 e8 e9] (by rfl) (by rfl) (World.news_of_block (cs := #[.int .i64 e1, .int .i64 e2, .string e3, .slice e4 e5 e6, .slice e7 e8 e9]) (t := 66) (fr := (0, 0)) (heap_alloc_new w3 _)) (by simp [Value.oneCell'])
                       (by have := unhide HLE; unfold maxLen; omega) (by have := unhide HLE; omega) (by simp; omega) ?_
                    intro v4 w4 hown4 hg4 hrow4 hat4
                    obtain ⟨g4, cap4, rfl, hg41, hg42⟩ := hown4.form (by omega)
                    have hr4 : some w1.heap.size ≠ vL.ownBlock := fun e => by have := ((unhide HNE) _ e.symm).1; omega
                    have c4 : w4.cell? ⟨w1.heap.size, 3, none⟩ = some vL := (hg4.cell_far ⟨w1.heap.size, 3, none⟩ (by simp; omega) hr4).trans ((World.cell?_alloc_lt _ _ _ hz3).trans c3)
                    have c4f : w4.frozen? ⟨w1.heap.size, 3, none⟩ = false := (hg4.frozen_far ⟨w1.heap.size, 3, none⟩ (by simp; omega) hr4).trans ((((Below.refl w3.heap.size w3).alloc (Nat.le_refl _) _).frozen (p := ⟨w1.heap.size, 3, none⟩) hz3).trans c3f)
                    refine hK.out _ _ ?_ (fun hHeld => ?_)
                    · exact c4f
                    clear hK K
                    try simp only [Act.put, List.setIfInBounds_toArray, List.set_cons_zero, List.set_cons_succ]
                    refine wpAnyH_take (i := 8) (v := ?_) rfl (by kernel_rfl) (by kernel_rfl) (by kernel_rfl) (fun _ _ _ h => h) (Or.inl ⟨by rfl, ?_⟩) (by assumption) ?_
                    rotate_left
                    · intro W hSW
                      try dsimp only at hSW
                      go_simp
                      try with_reducible rfl
                    try simp only [Act.put, List.setIfInBounds_toArray, List.set_cons_zero, List.set_cons_succ]
                    refine wpAnyH_ready (rs := [9]) (by kernel_rfl) (by simp) ?_
                    refine AllReadyH.cons rfl (fun K hK => ?_) AllReadyH.nil
                    go_simp
                    refine hK.out _ _ ?_ (fun hHeld => ?_)
                    · exact (World.frozen?_setCell _ _ _ _).trans c4f
                    clear hK K
                    try simp only [Act.put, List.setIfInBounds_toArray, List.set_cons_zero, List.set_cons_succ]
                    refine wpAnyH_done (by kernel_rfl) ?_ _
                    go_wp2_with fail
                    go_roundg g
                    case measure => omega
                    case rel => exact dict_round hlt hz1 (unhide HLG) (unhide HQL) (unhide HLE) hr3 (unhide HEL) (unhide HZ) (unhide HBX) (unhide HOW) (unhide HELS) (unhide HOK) (unhide HDIS) (unhide HKL) (unhide HGR) (grownDrew hg3) hv hown4 hg4 hat4
                  · go_simp
                    refine ((unhide HV) _ (belowDrewN 1 (Below.refl _ _))).mono ?_; rintro e w3 ⟨v, rfl, hv, hr3, hg3⟩; obtain ⟨e1, e2, e3, e4, e5, e6, e7, e8, e9, rfl⟩ := VIn.form hv
                    have hz3 : w1.heap.size < w3.heap.size := Nat.lt_of_lt_of_le hzr hg3.size
                    have c3 : w3.cell? ⟨w1.heap.size, 3, none⟩ = some vL := (hg3.cell_far ⟨w1.heap.size, 3, none⟩ hzr (by simp; omega)).trans k3
                    have c3f : w3.frozen? ⟨w1.heap.size, 3, none⟩ = false := (hg3.frozen_far ⟨w1.heap.size, 3, none⟩ hzr (by simp; omega)).trans k3f
                    refine hK.out _ _ ?_ (fun hHeld => ?_)
                    · exact c3f
                    clear hK K
                    try simp only [Act.put, List.setIfInBounds_toArray, List.set_cons_zero, List.set_cons_succ]
                    refine wpAnyH_ready (rs := [1, 6]) (by kernel_rfl) (by simp) ?_
                    refine AllReadyH.cons (o := { dst := some 40, op := .load 63 (.tmp 39), type := 63, pos := "read.go:52", after := #[{ on := 0, ground := .data }], guard := none }) rfl (fun K hK => ?_) (AllReadyH.cons (o := { dst := some 45, op := .buildSlice 63 1 #[(0, .tmp 44)], type := 63, pos := "read.go:52", after := #[{ on := 5, ground := .data }], guard := none }) rfl (fun K hK => ?_) AllReadyH.nil)
                    · go_simp
                      refine hK.out _ _ ?_ (fun hHeld => ?_)
                      · exact c3f
                      clear hK K
                      try simp only [Act.put, List.setIfInBounds_toArray, List.set_cons_zero, List.set_cons_succ]
                      refine wpAnyH_ready (rs := [6]) (by kernel_rfl) (by simp) ?_
                      refine AllReadyH.cons (o := { dst := some 45, op := .buildSlice 63 1 #[(0, .tmp 44)], type := 63, pos := "read.go:52", after := #[{ on := 5, ground := .data }], guard := none }) rfl (fun K hK => ?_) AllReadyH.nil
                      go_simp
                      refine hK.out _ _ ?_ (fun hHeld => ?_)
                      · exact (((Below.refl w3.heap.size w3).alloc (Nat.le_refl _) _).frozen (p := ⟨w1.heap.size, 3, none⟩) hz3).trans c3f
                      clear hK K
                      try simp only [Act.put, List.setIfInBounds_toArray, List.set_cons_zero, List.set_cons_succ]
                      refine wpAnyH_ready (rs := [7]) (by kernel_rfl) (by simp) ?_
                      refine AllReadyH.cons (o := { dst := some 46, op := .call { callee := .builtin .append, args := #[.tmp 40, .tmp 45], argTypes := #[63, 63] }, type := 63, pos := "read.go:52", after := #[{ on := 1, ground := .data }, { on := 6, ground := .data }, { on := 5, ground := .chain }], guard := none }) rfl (fun K hK => ?_) AllReadyH.nil
                      refine step_append_at _ (by rfl) _ _ _ (by rfl) (w1.heap.size + 1) 66 i0 _ 5 80 Tryz.underlying63 hi hz0' hz1' hz2' rfl (by omega) vL acc.length xs (by rfl)
                         (World.ownsRow.alloc ((unhide HOW).kept (grownDrew hg3) (by right; intro e; have := (unhide HNE) _ e; omega)) _)
                         ⟨w3.heap.size, 0, none⟩ 1 1 [.int .i64 e1, .int .i64 e2, .string e3, .slice e4 e5 e6, .slice e7 e8 e9] (by rfl) (by rfl) (World.news_of_block (cs := #[.int .i64 e1, .int .i64 e2, .string e3, .slice e4 e5 e6, .slice e7 e8 e9]) (t := 66) (fr := (0, 0)) (heap_alloc_new w3 _)) (by simp [Value.oneCell'])
                         (by have := unhide HLE; unfold maxLen; omega) (by have := unhide HLE; omega) (by simp; omega) ?_
                      intro v4 w4 hown4 hg4 hrow4 hat4
                      obtain ⟨g4, cap4, rfl, hg41, hg42⟩ := hown4.form (by omega)
                      have hr4 : some w1.heap.size ≠ vL.ownBlock := fun e => by have := ((unhide HNE) _ e.symm).1; omega
                      have c4 : w4.cell? ⟨w1.heap.size, 3, none⟩ = some vL := (hg4.cell_far ⟨w1.heap.size, 3, none⟩ (by simp; omega) hr4).trans ((World.cell?_alloc_lt _ _ _ hz3).trans c3)
                      have c4f : w4.frozen? ⟨w1.heap.size, 3, none⟩ = false := (hg4.frozen_far ⟨w1.heap.size, 3, none⟩ (by simp; omega) hr4).trans ((((Below.refl w3.heap.size w3).alloc (Nat.le_refl _) _).frozen (p := ⟨w1.heap.size, 3, none⟩) hz3).trans c3f)
                      refine hK.out _ _ ?_ (fun hHeld => ?_)
                      · exact c4f
                      clear hK K
                      try simp only [Act.put, List.setIfInBounds_toArray, List.set_cons_zero, List.set_cons_succ]
                      refine wpAnyH_take (i := 8) (v := ?_) rfl (by kernel_rfl) (by kernel_rfl) (by kernel_rfl) (fun _ _ _ h => h) (Or.inl ⟨by rfl, ?_⟩) (by assumption) ?_
                      rotate_left
                      · intro W hSW
                        try dsimp only at hSW
                        go_simp
                        try with_reducible rfl
                      try simp only [Act.put, List.setIfInBounds_toArray, List.set_cons_zero, List.set_cons_succ]
                      refine wpAnyH_ready (rs := [9]) (by kernel_rfl) (by simp) ?_
                      refine AllReadyH.cons rfl (fun K hK => ?_) AllReadyH.nil
                      go_simp
                      refine hK.out _ _ ?_ (fun hHeld => ?_)
                      · exact (World.frozen?_setCell _ _ _ _).trans c4f
                      clear hK K
                      try simp only [Act.put, List.setIfInBounds_toArray, List.set_cons_zero, List.set_cons_succ]
                      refine wpAnyH_done (by kernel_rfl) ?_ _
                      go_wp2_with fail
                      go_roundg g
                      case measure => omega
                      case rel => exact dict_round hlt hz1 (unhide HLG) (unhide HQL) (unhide HLE) hr3 (unhide HEL) (unhide HZ) (unhide HBX) (unhide HOW) (unhide HELS) (unhide HOK) (unhide HDIS) (unhide HKL) (unhide HGR) (grownDrew hg3) hv hown4 hg4 hat4
                    · go_simp
                      refine hK.out _ _ ?_ (fun hHeld => ?_)
                      · exact (((Below.refl w3.heap.size w3).alloc (Nat.le_refl _) _).frozen (p := ⟨w1.heap.size, 3, none⟩) hz3).trans c3f
                      clear hK K
                      try simp only [Act.put, List.setIfInBounds_toArray, List.set_cons_zero, List.set_cons_succ]
                      refine wpAnyH_ready (rs := [1]) (by kernel_rfl) (by simp) ?_
                      refine AllReadyH.cons (o := { dst := some 40, op := .load 63 (.tmp 39), type := 63, pos := "read.go:52", after := #[{ on := 0, ground := .data }], guard := none }) rfl (fun K hK => ?_) AllReadyH.nil
                      go_simp
                      refine hK.out _ _ ?_ (fun hHeld => ?_)
                      · exact (((Below.refl w3.heap.size w3).alloc (Nat.le_refl _) _).frozen (p := ⟨w1.heap.size, 3, none⟩) hz3).trans c3f
                      clear hK K
                      try simp only [Act.put, List.setIfInBounds_toArray, List.set_cons_zero, List.set_cons_succ]
                      refine wpAnyH_ready (rs := [7]) (by kernel_rfl) (by simp) ?_
                      refine AllReadyH.cons (o := { dst := some 46, op := .call { callee := .builtin .append, args := #[.tmp 40, .tmp 45], argTypes := #[63, 63] }, type := 63, pos := "read.go:52", after := #[{ on := 1, ground := .data }, { on := 6, ground := .data }, { on := 5, ground := .chain }], guard := none }) rfl (fun K hK => ?_) AllReadyH.nil
                      refine step_append_at _ (by rfl) _ _ _ (by rfl) (w1.heap.size + 1) 66 i0 _ 5 80 Tryz.underlying63 hi hz0' hz1' hz2' rfl (by omega) vL acc.length xs (by rfl)
                         (World.ownsRow.alloc ((unhide HOW).kept (grownDrew hg3) (by right; intro e; have := (unhide HNE) _ e; omega)) _)
                         ⟨w3.heap.size, 0, none⟩ 1 1 [.int .i64 e1, .int .i64 e2, .string e3, .slice e4 e5 e6, .slice e7 e8 e9] (by rfl) (by rfl) (World.news_of_block (cs := #[.int .i64 e1, .int .i64 e2, .string e3, .slice e4 e5 e6, .slice e7 e8 e9]) (t := 66) (fr := (0, 0)) (heap_alloc_new w3 _)) (by simp [Value.oneCell'])
                         (by have := unhide HLE; unfold maxLen; omega) (by have := unhide HLE; omega) (by simp; omega) ?_
                      intro v4 w4 hown4 hg4 hrow4 hat4
                      obtain ⟨g4, cap4, rfl, hg41, hg42⟩ := hown4.form (by omega)
                      have hr4 : some w1.heap.size ≠ vL.ownBlock := fun e => by have := ((unhide HNE) _ e.symm).1; omega
                      have c4 : w4.cell? ⟨w1.heap.size, 3, none⟩ = some vL := (hg4.cell_far ⟨w1.heap.size, 3, none⟩ (by simp; omega) hr4).trans ((World.cell?_alloc_lt _ _ _ hz3).trans c3)
                      have c4f : w4.frozen? ⟨w1.heap.size, 3, none⟩ = false := (hg4.frozen_far ⟨w1.heap.size, 3, none⟩ (by simp; omega) hr4).trans ((((Below.refl w3.heap.size w3).alloc (Nat.le_refl _) _).frozen (p := ⟨w1.heap.size, 3, none⟩) hz3).trans c3f)
                      refine hK.out _ _ ?_ (fun hHeld => ?_)
                      · exact c4f
                      clear hK K
                      try simp only [Act.put, List.setIfInBounds_toArray, List.set_cons_zero, List.set_cons_succ]
                      refine wpAnyH_take (i := 8) (v := ?_) rfl (by kernel_rfl) (by kernel_rfl) (by kernel_rfl) (fun _ _ _ h => h) (Or.inl ⟨by rfl, ?_⟩) (by assumption) ?_
                      rotate_left
                      · intro W hSW
                        try dsimp only at hSW
                        go_simp
                        try with_reducible rfl
                      try simp only [Act.put, List.setIfInBounds_toArray, List.set_cons_zero, List.set_cons_succ]
                      refine wpAnyH_ready (rs := [9]) (by kernel_rfl) (by simp) ?_
                      refine AllReadyH.cons rfl (fun K hK => ?_) AllReadyH.nil
                      go_simp
                      refine hK.out _ _ ?_ (fun hHeld => ?_)
                      · exact (World.frozen?_setCell _ _ _ _).trans c4f
                      clear hK K
                      try simp only [Act.put, List.setIfInBounds_toArray, List.set_cons_zero, List.set_cons_succ]
                      refine wpAnyH_done (by kernel_rfl) ?_ _
                      go_wp2_with fail
                      go_roundg g
                      case measure => omega
                      case rel => exact dict_round hlt hz1 (unhide HLG) (unhide HQL) (unhide HLE) hr3 (unhide HEL) (unhide HZ) (unhide HBX) (unhide HOW) (unhide HELS) (unhide HOK) (unhide HDIS) (unhide HKL) (unhide HGR) (grownDrew hg3) hv hown4 hg4 hat4
end Go.Proofs.YtdmaopfaeigelaaGreatDoor
