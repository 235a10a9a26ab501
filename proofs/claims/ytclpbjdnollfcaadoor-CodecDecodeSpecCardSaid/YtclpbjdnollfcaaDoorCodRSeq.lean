/- The reference's reader in a list or dictionary: what a round begins with, what it ends with. -/
import Derived.Test.YtclpbjdnollfcaaDoorCodDict
import Derived.Test.YtclpbjdnollfcaaDoorCodRDec
import Derived.Test.YtclpbjdnollfcaaDoorCodRTxD
namespace Go.Proofs.YtclpbjdnollfcaaDoor
set_option linter.unusedSimpArgs false
set_option linter.unusedVariables false
open Go.RowKit

/-- the value's box at N, its rows, and the result's box -/
def Rows (w : World) (rb N : Nat) (K : Int) (vL vK : Value) (m : Nat) (xs : List Value) (ks : List ByteArray) (wr : World) : Prop :=
  wr.heap[w.heap.size]? = some (.cells zeroCells 25 (0, 0)) ∧ wr.heap[N]? = some (.cells (boxL K vL vK) 25 (0, 0)) ∧
    wr.ownsRow (N + 1) 25 5 vL m xs ∧ wr.ownsRow (N + 1) 9 1 vK ks.length (ks.map Value.string) ∧ (∀ b, vL.ownBlock = some b → vK.ownBlock ≠ some b) ∧ w.grownBy wr (some rb)
/-- no key is larger than memory -/
def KeysOk (ks : List ByteArray) : Prop := ∀ (i : Nat) (s : ByteArray), ks[i]? = some s → s.size ≤ 140737488351232
/-- the elements of the row are these -/
def ElsIn (wr : World) (N : Nat) (vL vK : Value) (xs : List Value) (acc : List Va) : Prop :=
  ∀ (i : Nat) (x : Va), acc[i]? = some x → ∃ k n s A1 m c A2 m' c', xs[i * 5]? = some (.int .i64 k) ∧ xs[i * 5 + 1]? = some (.int .i64 n) ∧ xs[i * 5 + 2]? = some (.string s) ∧
    xs[i * 5 + 3]? = some (.slice A1 m c) ∧ xs[i * 5 + 4]? = some (.slice A2 m' c') ∧ VIn wr (fun b => N < b ∧ b < wr.heap.size ∧ vL.ownBlock ≠ some b ∧ vK.ownBlock ≠ some b) x (vaV k n s A1 m c A2 m' c')

theorem rows_key {w wr w3 w4 : World} {rb N m : Nat} {K : Int} {xs : List Value} {ks : List ByteArray} {key : ByteArray} {vL vK v4 : Value} {o : Obj}
    (hrw : rb < w.heap.size) (hwN : w.heap.size < N) (hR : Rows w rb N K vL vK m xs ks wr) (hg3 : wr.grownBy w3 (some rb))
    (hown4 : w4.ownsRow (N + 1) 9 1 v4 (ks.length + 1) (ks.map Value.string ++ [.string key])) (hg4 : (w3.alloc o).grownBy w4 vK.ownBlock)
    (hat4 : v4.ownBlock = vK.ownBlock ∨ v4.ownBlock = some (w3.alloc o).heap.size) :
    Rows w rb N K vL v4 m xs (ks ++ [key]) (w4.setCell ⟨N, 4, none⟩ v4) ∧ (∀ acc, ElsIn wr N vL vK xs acc → ElsIn (w4.setCell ⟨N, 4, none⟩ v4) N vL v4 xs acc) ∧ Below (rb + 1) w3 (w4.setCell ⟨N, 4, none⟩ v4) := by
  obtain ⟨hz, hbox, how, hok, hdis, hgr⟩ := hR
  have hNr := lt_of_block hbox
  have h3 := hg3.size
  have h4 : w3.heap.size < w4.heap.size := by have := hg4.size; simp at this; omega
  have hkb := hok.lt
  have hlb := how.lt
  have hkeep : ∀ b, b < wr.heap.size → b ≠ rb → b ≠ N → vK.ownBlock ≠ some b → (w4.setCell ⟨N, 4, none⟩ v4).heap[b]? = wr.heap[b]? := fun b hb h1 h2 h5 => by
    rw [Below.heap_setCell _ _ _ _ h2, hg4.block b (by simp; omega) (fun e => h5 e.symm), heap_alloc_old _ _ (by omega), hg3.block b hb (by simpa using h1)]
  have hs5 : (w4.setCell ⟨N, 4, none⟩ v4).heap.size = w4.heap.size := by simp [World.setCell]
  have hnew : ∀ b, b < w3.heap.size → vK.ownBlock ≠ some b → v4.ownBlock ≠ some b := fun b hb h5 e => by
    rcases hat4 with h | h
    · exact h5 (h ▸ e)
    · rw [h] at e
      simp at e
      omega
  have hb3 : Below (rb + 1) w3 (w4.setCell ⟨N, 4, none⟩ v4) :=
    (((Below.refl _ _).alloc (by omega) _).grown hg4 (by simp; omega) (fun k hk => by have := (hkb k hk).1; omega)).setCell (by show rb + 1 ≤ N; omega) _
  have hol : w4.ownsRow (N + 1) 25 5 vL m xs := by
    refine (World.ownsRow.alloc (how.kept hg3 (.inr fun e => by have := (hlb _ e).1; omega)) o).kept hg4 ?_
    cases hv : vL.ownBlock with
    | none => exact .inl rfl
    | some b => exact .inr fun e => hdis b hv e.symm
  refine ⟨⟨?_, box_set4 (vK := vK) ?_, ownsRow_setCell_below hol (by show N < N + 1; omega) _, ?_, fun b hb => hnew b (by have := (hlb b hb).2; omega) (hdis b hb), ?_⟩, fun acc hels i y hy => ?_, hb3⟩
  · rw [hkeep _ (by omega) (by omega) (by omega) (fun e => by have := (hkb _ e).1; omega)]; exact hz
  · rw [hg4.block N (by simp; omega) (fun e => by have := (hkb _ e.symm).1; omega), heap_alloc_old _ _ (by omega), hg3.block N hNr (by simp; omega)]; exact hbox
  · rw [List.length_append, List.map_append]
    exact ownsRow_setCell_below hown4 (by show N < N + 1; omega) _
  · refine ⟨hg4.os.trans (hg3.os.trans hgr.os), hg4.tape.trans (hg3.tape.trans hgr.tape), hg4.output.trans (hg3.output.trans hgr.output), by rw [hs5]; have := hgr.size; omega, fun b hb hne => ?_⟩
    have hbr := hgr.size
    rw [Below.heap_setCell _ _ _ _ (by show b ≠ N; omega), hg4.block b (by simp; omega) (fun e => by have := (hkb b e.symm).1; omega), heap_alloc_old _ _ (by omega), hg3.block b (by omega) hne, hgr.block b hb hne]
  · obtain ⟨k, n, s, A1, m, c, A2, m', c', c0, c1, c2, c3, c4, hv1⟩ := hels i y hy
    exact ⟨k, n, s, A1, m, c, A2, m', c', c0, c1, c2, c3, c4, hv1.keep (fun b hb => ⟨hb.1, by rw [hs5]; omega, hb.2.2.1, hnew b (by omega) hb.2.2.2⟩) fun b hb => hkeep b hb.2.1 (by omega) (by omega) hb.2.2.2⟩

theorem rows_elem {w wr w3 w4 : World} {rb N m : Nat} {K : Int} {xs : List Value} {ks : List ByteArray} {vL vK v4 : Value}
    {e1 e2 : Int} {e3 : ByteArray} {e4 : Option Addr} {e5 e6 : Nat} {e7 : Option Addr} {e8 e9 : Nat} {o : Obj}
    (hrw : rb < w.heap.size) (hwN : w.heap.size < N) (hR : Rows w rb N K vL vK m xs ks wr) (hg3 : wr.grownBy w3 (some rb))
    (hown4 : w4.ownsRow (N + 1) 25 5 v4 (m + 1) (xs ++ [.int .i64 e1, .int .i64 e2, .string e3, .slice e4 e5 e6, .slice e7 e8 e9])) (hg4 : (w3.alloc o).grownBy w4 vL.ownBlock)
    (hat4 : v4.ownBlock = vL.ownBlock ∨ v4.ownBlock = some (w3.alloc o).heap.size) :
    Rows w rb N K v4 vK (m + 1) (xs ++ [.int .i64 e1, .int .i64 e2, .string e3, .slice e4 e5 e6, .slice e7 e8 e9]) ks (w4.setCell ⟨N, 3, none⟩ v4) ∧
    (∀ (acc : List Va) (x : Va), acc.length = m → ElsIn wr N vL vK xs acc → VIn w3 (fun b => wr.heap.size ≤ b ∧ b < w3.heap.size) x (vaV e1 e2 e3 e4 e5 e6 e7 e8 e9) →
      ElsIn (w4.setCell ⟨N, 3, none⟩ v4) N v4 vK (xs ++ [.int .i64 e1, .int .i64 e2, .string e3, .slice e4 e5 e6, .slice e7 e8 e9]) (acc ++ [x])) ∧ Below (rb + 1) w3 (w4.setCell ⟨N, 3, none⟩ v4) := by
  obtain ⟨hz, hbox, how, hok, hdis, hgr⟩ := hR
  have hNr := lt_of_block hbox
  have h3 := hg3.size
  have h4 : w3.heap.size < w4.heap.size := by have := hg4.size; simp at this; omega
  have hown := how.lt
  have hkb := hok.lt
  have hkeep : ∀ b, b < wr.heap.size → b ≠ rb → b ≠ N → vL.ownBlock ≠ some b → (w4.setCell ⟨N, 3, none⟩ v4).heap[b]? = wr.heap[b]? := fun b hb h1 h2 h5 => by
    rw [Below.heap_setCell _ _ _ _ h2, hg4.block b (by simp; omega) (fun e => h5 e.symm), heap_alloc_old _ _ (by omega), hg3.block b hb (by simpa using h1)]
  have hkeep3 : ∀ b, wr.heap.size ≤ b → b < w3.heap.size → (w4.setCell ⟨N, 3, none⟩ v4).heap[b]? = w3.heap[b]? := fun b hb h1 => by
    rw [Below.heap_setCell _ _ _ _ (by show b ≠ N; omega), hg4.block b (by simp; omega) (fun e => by have := (hown b e.symm).2; omega), heap_alloc_old _ _ h1]
  have hs5 : (w4.setCell ⟨N, 3, none⟩ v4).heap.size = w4.heap.size := by simp [World.setCell]
  have hnew : ∀ b, b < w3.heap.size → vL.ownBlock ≠ some b → v4.ownBlock ≠ some b := fun b hb h5 e => by
    rcases hat4 with h | h
    · exact h5 (h ▸ e)
    · rw [h] at e
      simp at e
      omega
  have hb3 : Below (rb + 1) w3 (w4.setCell ⟨N, 3, none⟩ v4) :=
    (((Below.refl _ _).alloc (by omega) _).grown hg4 (by simp; omega) (fun k hk => by have := (hown k hk).1; omega)).setCell (by show rb + 1 ≤ N; omega) _
  have hokk : w4.ownsRow (N + 1) 9 1 vK ks.length (ks.map Value.string) := by
    refine (World.ownsRow.alloc (hok.kept hg3 (.inr fun e => by have := (hkb _ e).1; omega)) o).kept hg4 ?_
    cases hv : vK.ownBlock with
    | none => exact .inl rfl
    | some b => exact .inr fun e => hdis b e.symm hv
  refine ⟨⟨?_, box_set (vL := vL) ?_, ?_, ownsRow_setCell_below hokk (by show N < N + 1; omega) _, fun b hb e => ?_, ?_⟩, fun acc x hm hels hv i y hy => ?_, hb3⟩
  · rw [hkeep _ (by omega) (by omega) (by omega) (fun e => by have := (hown _ e).1; omega)]; exact hz
  · rw [hg4.block N (by simp; omega) (fun e => by have := (hown _ e.symm).1; omega), heap_alloc_old _ _ (by omega), hg3.block N hNr (by simp; omega)]; exact hbox
  · exact ownsRow_setCell_below hown4 (by show N < N + 1; omega) _
  · have h5 := (hkb b e).2
    refine hnew b (by omega) (fun e' => hdis b e' e) hb
  · refine ⟨hg4.os.trans (hg3.os.trans hgr.os), hg4.tape.trans (hg3.tape.trans hgr.tape), hg4.output.trans (hg3.output.trans hgr.output), by rw [hs5]; have := hgr.size; omega, fun b hb hne => ?_⟩
    have hbr := hgr.size
    rw [Below.heap_setCell _ _ _ _ (by show b ≠ N; omega), hg4.block b (by simp; omega) (fun e => by have := (hown b e.symm).1; omega), heap_alloc_old _ _ (by omega), hg3.block b (by omega) hne, hgr.block b hb hne]
  · subst hm
    have hxl := how.1
    by_cases hi : i < acc.length
    · rw [List.getElem?_append_left hi] at hy
      obtain ⟨k, n, s, A1, m, c, A2, m', c', c0, c1, c2, c3, c4, hv1⟩ := hels i y hy
      have ha : ∀ j, j < xs.length → (xs ++ [Value.int .i64 e1, .int .i64 e2, .string e3, .slice e4 e5 e6, .slice e7 e8 e9])[j]? = xs[j]? := fun j hj => List.getElem?_append_left hj
      refine ⟨k, n, s, A1, m, c, A2, m', c', by rw [ha _ (by omega)]; exact c0, by rw [ha _ (by omega)]; exact c1, by rw [ha _ (by omega)]; exact c2, by rw [ha _ (by omega)]; exact c3, by rw [ha _ (by omega)]; exact c4, hv1.keep (fun b hb => ⟨hb.1, by rw [hs5]; omega, hnew b (by omega) hb.2.2.1, hb.2.2.2⟩) fun b hb => hkeep b hb.2.1 (by omega) (by omega) hb.2.2.1⟩
    · obtain rfl : i = acc.length := by
        have := (List.getElem?_eq_some_iff.1 hy).1
        simp at this
        omega
      rw [List.getElem?_append_right (Nat.le_refl _)] at hy
      simp at hy
      subst hy
      have ha : ∀ j, (xs ++ [Value.int .i64 e1, .int .i64 e2, .string e3, .slice e4 e5 e6, .slice e7 e8 e9])[acc.length * 5 + j]? = [Value.int .i64 e1, .int .i64 e2, .string e3, .slice e4 e5 e6, .slice e7 e8 e9][j]? := fun j => by
        rw [← hxl, List.getElem?_append_right (by omega), Nat.add_sub_cancel_left]
      refine ⟨e1, e2, e3, e4, e5, e6, e7, e8, e9, ha 0, ha 1, ha 2, ha 3, ha 4, hv.keep (fun b hb => ⟨by omega, by rw [hs5]; omega, hnew b hb.2 (fun e => by have := (hown b e).2; omega), fun e => by have := (hkb b e).2; omega⟩) fun b hb => hkeep3 b hb.1 hb.2⟩
theorem rows_form {w wr : World} {rb N m : Nat} {K : Int} {xs : List Value} {ks : List ByteArray} {vL vK : Value} (hR : Rows w rb N K vL vK m xs ks wr) :
    ∃ A c A' c', vL = .slice A m c ∧ vK = .slice A' ks.length c' := by
  obtain ⟨_, _, how, hok, _, _⟩ := hR
  have e : ∃ A' c', vK = .slice A' ks.length c' := by
    rcases hok.2 with ⟨rfl, h0⟩ | ⟨g, cap, cur, rfl, _⟩
    · exact ⟨none, 0, by rw [h0]⟩
    · exact ⟨_, cap, rfl⟩
  obtain ⟨A', c', e⟩ := e
  rcases how.2 with ⟨rfl, h0⟩ | ⟨g, cap, cur, rfl, _⟩
  · subst h0
    exact ⟨none, 0, A', c', rfl, e⟩
  · exact ⟨_, cap, A', c', rfl, e⟩
theorem rows_val {w wr : World} {rb N : Nat} {K : Int} {xs : List Value} {ks : List ByteArray} {vL vK : Value} {acc : List Va} (hR : Rows w rb N K vL vK acc.length xs ks wr) (hE : ElsIn wr N vL vK xs acc) (hKS : KeysOk ks) (hK : I64 K) (hl : acc.length ≤ 140737488351232) (hk : ks.length ≤ 140737488351232)
    {A : Option Addr} {c : Nat} {A' : Option Addr} {c' : Nat} (e1 : vL = .slice A acc.length c) (e2 : vK = .slice A' ks.length c') : VIn wr (fun b => N < b ∧ b < wr.heap.size) (.mk K 0 ⟨#[]⟩ acc ks) (vaV K 0 ⟨#[]⟩ A acc.length c A' ks.length c') := by
  obtain ⟨_, _, how, hok, _, _⟩ := hR
  obtain ⟨A0, c0, b0, o0, vv, e3, hA0, h5, hat⟩ := own_in (acc := acc) ⟨xs, how, fun i x hx => by
    obtain ⟨k, n, s, A1, m, c, A2, m', c', x0, x1, x2, x3, x4, hv⟩ := hE i x hx
    exact ⟨k, n, s, A1, m, c, A2, m', c', x0, x1, x2, x3, x4, hv.keep (fun b hb => ⟨hb.1, hb.2.1, hb.2.2.1⟩) fun b _ => rfl⟩⟩
  obtain ⟨A1, c1, bk, e4, hA1, hkat⟩ := keys_in (ks := ks) ⟨hok, hKS⟩
  rw [e1] at e3
  rw [e2] at e4
  injection e3 with e3 _ e5
  injection e4 with e4 _ e6
  subst e3 e4 e5 e6
  exact .mk K 0 ⟨#[]⟩ acc ks A c A' c' hK ⟨by decide, by decide⟩ (by decide) hl hk hA0 hA1 b0 o0 vv h5 hat bk 0 hkat


/-- what the loop reads: K is 3 (a list) or 4 (a dictionary) -/
def seqR (L : Nat) (v : List UInt8 → Option (Va × List UInt8)) (K : Int) (f : Nat) (bs : List UInt8) (acc : List Va) (ks : List ByteArray) : Option ((List Va × List ByteArray) × List UInt8) :=
  if K = 4 then pairsR L v f bs acc ks else (elemsP v f bs acc).map fun p => ((p.1, ks), p.2)
/-- the element that is next, and what follows it -/
def elemR (L : Nat) (v : List UInt8 → Option (Va × List UInt8)) (K : Int) (f : Nat) (bs : List UInt8) (acc : List Va) (ks : List ByteArray) : Option ((List Va × List ByteArray) × List UInt8) :=
  match v bs with
  | none => none
  | some (x, t) => seqR L v K f t (acc ++ [x]) ks
theorem seqR_nil (L : Nat) (v : List UInt8 → Option (Va × List UInt8)) (K : Int) (f : Nat) (acc : List Va) (ks : List ByteArray) : seqR L v K (f + 1) [] acc ks = none := by
  unfold seqR
  split <;> simp [pairsR, elemsP]
theorem seqR_end (L : Nat) (v : List UInt8 → Option (Va × List UInt8)) (K : Int) (f : Nat) (b : UInt8) (t : List UInt8) (acc : List Va) (ks : List ByteArray) (hb : b.toNat = 101) : seqR L v K (f + 1) (b :: t) acc ks = some ((acc, ks), t) := by
  unfold seqR
  split <;> simp [pairsR, elemsP, hb]
theorem seqR_list (L : Nat) (v : List UInt8 → Option (Va × List UInt8)) (f : Nat) (b : UInt8) (t : List UInt8) (acc : List Va) (ks : List ByteArray) (hb : b.toNat ≠ 101) : seqR L v 3 (f + 1) (b :: t) acc ks = elemR L v 3 f (b :: t) acc ks := by
  have h3 : ¬ (3 : Int) = 4 := by decide
  unfold elemR seqR
  simp only [elemsP, if_neg hb, if_neg h3]
  cases v (b :: t) with
  | none => rfl
  | some p => rfl
theorem seqR_dict (L : Nat) (v : List UInt8 → Option (Va × List UInt8)) (f : Nat) (b : UInt8) (t : List UInt8) (acc : List Va) (ks : List ByteArray) (hb : b.toNat ≠ 101) : seqR L v 4 (f + 1) (b :: t) acc ks = match textR L (b :: t) with
    | none => none
    | some (key, q) => elemR L v 4 f q acc (ks ++ [⟨key.toArray⟩]) := by
  unfold seqR
  rw [if_pos rfl]
  simp only [pairsR, if_neg hb]
  cases textR L (b :: t) with
  | none => rfl
  | some p =>
    obtain ⟨key, q⟩ := p
    unfold elemR seqR
    simp only [if_true]
    cases v q with
    | none => rfl
    | some p => rfl

theorem size_toArray (s : List UInt8) : (⟨s.toArray⟩ : ByteArray).size = s.length := by show s.toArray.size = _; simp
theorem keysOk_snoc {ks : List ByteArray} {key : ByteArray} (h : KeysOk ks) (hk : key.size ≤ 140737488351232) : KeysOk (ks ++ [key]) := by
  intro i s hs
  by_cases hi : i < ks.length
  · rw [List.getElem?_append_left hi] at hs
    exact h i s hs
  · obtain rfl : i = ks.length := by
      have := (List.getElem?_eq_some_iff.1 hs).1
      simp at this
      omega
    rw [List.getElem?_append_right (Nat.le_refl _)] at hs
    simp at hs
    subst hs
    exact hk
/-- where the loop stands -/
def RAt (w : World) (rb N : Nat) (A : Option Addr) (c : Nat) (l : List UInt8) (d : Nat) (K : Int) (r : Option ((List Va × List ByteArray) × List UInt8)) (g : Nat) (wr : World) : Prop :=
  ∃ (vL vK : Value) (m : Nat) (xs : List Value) (ks : List ByteArray) (q : Nat) (bad : Bool), Rows w rb N K vL vK m xs ks wr ∧ m ≤ 2100 ∧ ks.length ≤ 2100 ∧ RR wr rb A c l q bad ∧ q ≤ l.length + 2 + d ∧
    (bad = false → ∃ acc : List Va, acc.length = m ∧ ElsIn wr N vL vK xs acc ∧ KeysOk ks ∧ q ≤ l.length ∧ m ≤ q ∧ ks.length ≤ q ∧ l.length < q + g ∧ seqR l.length (valR l.length d) K g (l.drop q) acc ks = r) ∧ (bad = true → r = none)
/-- where it stands ahead of an element -/
def RMid (w : World) (rb N : Nat) (A : Option Addr) (c : Nat) (l : List UInt8) (d : Nat) (K : Int) (r : Option ((List Va × List ByteArray) × List UInt8)) (g : Nat) (wr : World) : Prop :=
  ∃ (vL vK : Value) (m : Nat) (xs : List Value) (ks : List ByteArray) (q : Nat) (bad : Bool), Rows w rb N K vL vK m xs ks wr ∧ m ≤ 2050 ∧ ks.length ≤ 2050 ∧ RR wr rb A c l q bad ∧ q ≤ l.length + 1 ∧
    (bad = false → ∃ acc : List Va, acc.length = m ∧ ElsIn wr N vL vK xs acc ∧ KeysOk ks ∧ q ≤ l.length ∧ m ≤ q ∧ ks.length ≤ q ∧ l.length ≤ q + g ∧ elemR l.length (valR l.length d) K g (l.drop q) acc ks = r) ∧ (bad = true → r = none)

theorem rows_below {w wr w2 : World} {rb N m : Nat} {K : Int} {xs : List Value} {ks : List ByteArray} {vL vK : Value} (hrw : rb < w.heap.size) (hwN : w.heap.size < N) (hR : Rows w rb N K vL vK m xs ks wr) (hg : wr.grownBy w2 (some rb)) :
    Rows w rb N K vL vK m xs ks w2 ∧ ∀ acc, ElsIn wr N vL vK xs acc → ElsIn w2 N vL vK xs acc := by
  obtain ⟨hz, hbox, how, hok, hdis, hgr⟩ := hR
  have hNr := lt_of_block hbox
  have hs := hg.size
  have hlb := how.lt
  have hkb := hok.lt
  refine ⟨⟨?_, ?_, how.kept hg (.inr fun e => by have := (hlb _ e).1; omega), hok.kept hg (.inr fun e => by have := (hkb _ e).1; omega), hdis, hgr.trans hg⟩, fun acc hE i x hx => ?_⟩
  · exact (hg.block w.heap.size (by omega) (by simp; omega)).trans hz
  · exact (hg.block N hNr (by simp; omega)).trans hbox
  · obtain ⟨k, n, s, A1, m, c, A2, m', c', c0, c1, c2, c3, c4, hv⟩ := hE i x hx
    exact ⟨k, n, s, A1, m, c, A2, m', c', c0, c1, c2, c3, c4, hv.keep (fun b hb => ⟨hb.1, by omega, hb.2.2⟩) fun b hb => hg.block b hb.2.1 (by simp; omega)⟩

/-- the loop's condition, where no e is next -/
theorem cond_next (w : World) (rb : Nat) (A : Option Addr) (c : Nat) (l : List UInt8) (q : Nat) (h : RR w rb A c l q false) (hq : q ≤ l.length) (hno : ∀ b, l[q]? = some b → b.toNat ≠ 101) :
    Calls Tryd.prog 52 #[.pointer (some ⟨rb, 0, none⟩)] w fun e w' => ∃ x : Int, e = .returned (.int .u8 x) ∧ (x != 101) = true ∧ RR w' rb A c l q (l[q]?).isNone ∧ Moved w rb w' := by
  have hl := h.2.2
  cases hb : l[q]? with
  | none =>
    refine (next_none w rb A c l q false h (by rw [List.getElem?_eq_none_iff] at hb; exact hb) (by omega)).mono ?_
    rintro e w' ⟨rfl, h1, h2⟩
    exact ⟨0, rfl, rfl, h1, h2⟩
  | some b =>
    refine (next_some w rb A c l q false b h hb).mono ?_
    rintro e w' ⟨rfl, h1⟩
    have := hno b hb
    exact ⟨_, rfl, by simp; omega, h.below h1, belowGrown rb h1⟩
/-- Value, whether the reader has been refused or not -/
theorem value_at {d : Nat} (ih : ValRIs d) (x : Int) (hx : x = 16 - (d : Int)) (w : World) (rb : Nat) (A : Option Addr) (c : Nat) (l : List UInt8) (q : Nat) (bad : Bool) (h : RR w rb A c l q bad) (hc : lenOk l c) (hq : q ≤ l.length + 1) (hqb : bad = false → q ≤ l.length) :
    Calls Tryd.prog 34 #[.pointer (some ⟨rb, 0, none⟩), .int .i64 x] w (RVal rb A c l d (if bad then none else valR l.length d (l.drop q)) w) := by
  have hl := h.2.2
  cases bad with
  | false => exact ih w rb A c l q h (hqb rfl) hc x hx
  | true =>
    refine (value_dead x w rb A c l q h (by omega)).mono ?_
    rintro e w' ⟨rfl, h1, h2⟩
    exact ⟨h2, 0, 0, ⟨#[]⟩, none, 0, 0, none, 0, 0, q, rfl, by omega, h1⟩
theorem text_at (w : World) (rb : Nat) (A : Option Addr) (c : Nat) (l : List UInt8) (q : Nat) (bad : Bool) (h : RR w rb A c l q bad) (hc : lenOk l c) (hq : q ≤ l.length) :
    Calls Tryd.prog 54 #[.pointer (some ⟨rb, 0, none⟩)] w (RTxt rb A c l (if bad then none else textR l.length (l.drop q)) w) := by
  have hl := h.2.2
  cases bad with
  | false => exact text_ref w rb A c l q h hq hc.1 hc.2
  | true =>
    refine (text_dead w rb A c l q h (by omega)).mono ?_
    rintro e w' ⟨rfl, h1, h2⟩
    exact ⟨h2, ⟨#[]⟩, q + 1, rfl, by omega, h1⟩

/-- a list's round, ahead of its element -/
theorem mid_list {w wr w2 : World} {rb N : Nat} {A : Option Addr} {c : Nat} {l : List UInt8} {d g m q : Nat} {r : Option ((List Va × List ByteArray) × List UInt8)} {xs : List Value} {ks : List ByteArray} {vL vK : Value} {acc : List Va}
    (hrw : rb < w.heap.size) (hwN : w.heap.size < N) (hR : Rows w rb N 3 vL vK m xs ks wr) (hm : m ≤ 2100) (ha : acc.length = m) (hE : ElsIn wr N vL vK xs acc) (hKS : KeysOk ks) (hq : q ≤ l.length) (hmq : m ≤ q) (hkq : ks.length ≤ q) (hlg : l.length < q + (g + 1))
    (hr : seqR l.length (valR l.length d) 3 (g + 1) (l.drop q) acc ks = r) (hno : ∀ b, l[q]? = some b → b.toNat ≠ 101) (h2 : RR w2 rb A c l q (l[q]?).isNone) (hg : Moved wr rb w2) : RMid w rb N A c l d 3 r g w2 := by
  have hl := h2.2.2
  obtain ⟨hR2, hE2⟩ := rows_below hrw hwN hR hg
  refine ⟨vL, vK, m, xs, ks, q, (l[q]?).isNone, hR2, by omega, by omega, h2, by omega, fun hb => ?_, fun hb => ?_⟩
  · cases hx : l[q]? with
    | none => rw [hx] at hb; cases hb
    | some b =>
      rw [drop_at hx, seqR_list _ _ _ _ _ _ _ (hno b hx), ← drop_at hx] at hr
      exact ⟨acc, ha, hE2 acc hE, hKS, hq, hmq, hkq, by omega, hr⟩
  · have hx : l[q]? = none := by simpa using hb
    rw [drop_none hx, seqR_nil] at hr
    exact hr.symm
/-- a dictionary's round, behind its key -/
theorem mid_dict {w wr w2 w3 w4 : World} {rb N : Nat} {A : Option Addr} {c : Nat} {l : List UInt8} {d g m q p' : Nat} {r : Option ((List Va × List ByteArray) × List UInt8)} {xs : List Value} {ks : List ByteArray} {vL vK v4 : Value} {acc : List Va} {key : ByteArray} {o : Obj}
    (hrw : rb < w.heap.size) (hwN : w.heap.size < N) (hR : Rows w rb N 4 vL vK m xs ks wr) (hm : m ≤ 2100) (ha : acc.length = m) (hE : ElsIn wr N vL vK xs acc) (hKS : KeysOk ks) (hq : q ≤ l.length) (hmq : m ≤ q) (hkq : ks.length ≤ q) (hlg : l.length < q + (g + 1))
    (hr : seqR l.length (valR l.length d) 4 (g + 1) (l.drop q) acc ks = r) (hno : ∀ b, l[q]? = some b → b.toNat ≠ 101) (h2 : RR w2 rb A c l q (l[q]?).isNone) (hg : Moved wr rb w2) (hg3 : Moved w2 rb w3)
    (hcase : match (if (l[q]?).isNone then none else textR l.length (l.drop q)) with
      | some (s', t) => key = ⟨s'.toArray⟩ ∧ p' ≤ l.length ∧ l.drop p' = t ∧ RR w3 rb A c l p' false
      | none => p' ≤ l.length + 1 ∧ RR w3 rb A c l p' true)
    (hown4 : w4.ownsRow (N + 1) 9 1 v4 (ks.length + 1) (ks.map Value.string ++ [.string key])) (hg4 : (w3.alloc o).grownBy w4 vK.ownBlock)
    (hat4 : v4.ownBlock = vK.ownBlock ∨ v4.ownBlock = some (w3.alloc o).heap.size) : RMid w rb N A c l d 4 r g (w4.setCell ⟨N, 4, none⟩ v4) := by
  have hl := h2.2.2
  obtain ⟨hR4, hE4, hb4⟩ := rows_key hrw hwN hR (World.grownBy.trans hg hg3) hown4 hg4 hat4
  cases hx : l[q]? with
  | none =>
    rw [hx] at hcase
    rw [drop_none hx, seqR_nil] at hr
    exact ⟨vL, v4, m, xs, ks ++ [key], p', true, hR4, by omega, by simp; omega, hcase.2.keep hb4, by have := hcase.1; omega, (by intro h; cases h), fun _ => hr.symm⟩
  | some b =>
    rw [hx] at hcase
    rw [drop_at hx, seqR_dict _ _ _ _ _ _ _ (hno b hx), ← drop_at hx] at hr
    simp only [Option.isNone_some, Bool.false_eq_true, if_false] at hcase
    cases ht : textR l.length (l.drop q) with
    | none =>
      rw [ht] at hcase hr
      exact ⟨vL, v4, m, xs, ks ++ [key], p', true, hR4, by omega, by simp; omega, hcase.2.keep hb4, by have := hcase.1; omega, (by intro h; cases h), fun _ => hr.symm⟩
    | some p =>
      obtain ⟨s', t⟩ := p
      rw [ht] at hcase hr
      obtain ⟨rfl, hp, rfl, h3⟩ := hcase
      have hlen := textR_len2 ht
      rw [List.length_drop, List.length_drop] at hlen
      exact ⟨vL, v4, m, xs, ks ++ [⟨s'.toArray⟩], p', false, hR4, by omega, by simp; omega, h3.keep hb4, by omega, fun _ => ⟨acc, ha, hE4 acc hE, keysOk_snoc hKS (by rw [size_toArray]; have := textR_len ht; omega), hp, by omega, by simp; omega, by omega, hr⟩, (by intro h; cases h)⟩
/-- a round's end -/
theorem mid_end {w wr w3 w4 : World} {rb N : Nat} {A : Option Addr} {c : Nat} {l : List UInt8} {d g m q p' : Nat} {K : Int} {r : Option ((List Va × List ByteArray) × List UInt8)} {xs : List Value} {ks : List ByteArray} {vL vK v4 : Value} {bad : Bool} {o : Obj}
    {e1 e2 : Int} {e3 : ByteArray} {e4 : Option Addr} {e5 e6 : Nat} {e7 : Option Addr} {e8 e9 : Nat}
    (hrw : rb < w.heap.size) (hwN : w.heap.size < N) (hR : Rows w rb N K vL vK m xs ks wr) (hm : m ≤ 2050) (hk : ks.length ≤ 2050) (hl : l.length ≤ 2000)
    (h1 : bad = false → ∃ acc : List Va, acc.length = m ∧ ElsIn wr N vL vK xs acc ∧ KeysOk ks ∧ q ≤ l.length ∧ m ≤ q ∧ ks.length ≤ q ∧ l.length ≤ q + g ∧ elemR l.length (valR l.length d) K g (l.drop q) acc ks = r) (h2 : bad = true → r = none)
    (hg3 : Moved wr rb w3)
    (hcase : match (if bad then none else valR l.length d (l.drop q)) with
      | some (V, t) => VNew wr V (vaV e1 e2 e3 e4 e5 e6 e7 e8 e9) w3 ∧ p' ≤ l.length ∧ l.drop p' = t ∧ RR w3 rb A c l p' false
      | none => p' ≤ l.length + 2 + d ∧ RR w3 rb A c l p' true)
    (hown4 : w4.ownsRow (N + 1) 25 5 v4 (m + 1) (xs ++ [.int .i64 e1, .int .i64 e2, .string e3, .slice e4 e5 e6, .slice e7 e8 e9])) (hg4 : (w3.alloc o).grownBy w4 vL.ownBlock)
    (hat4 : v4.ownBlock = vL.ownBlock ∨ v4.ownBlock = some (w3.alloc o).heap.size) : RAt w rb N A c l d K r g (w4.setCell ⟨N, 3, none⟩ v4) := by
  obtain ⟨hR4, hE4, hb4⟩ := rows_elem hrw hwN hR hg3 hown4 hg4 hat4
  cases bad with
  | true =>
    exact ⟨v4, vK, m + 1, _, ks, p', true, hR4, by omega, by omega, hcase.2.keep hb4, hcase.1, (by intro h; cases h), fun _ => h2 rfl⟩
  | false =>
    obtain ⟨acc, ha, hE, hKS, hq, hmq, hkq, hlg, hr⟩ := h1 rfl
    simp only [Bool.false_eq_true, if_false] at hcase
    cases hv : valR l.length d (l.drop q) with
    | none =>
      rw [hv] at hcase
      unfold elemR at hr
      rw [hv] at hr
      exact ⟨v4, vK, m + 1, _, ks, p', true, hR4, by omega, by omega, hcase.2.keep hb4, hcase.1, (by intro h; cases h), fun _ => hr.symm⟩
    | some p =>
      obtain ⟨V, t⟩ := p
      rw [hv] at hcase
      unfold elemR at hr
      rw [hv] at hr
      obtain ⟨hV, hp, rfl, h3⟩ := hcase
      have hlen := (valR_good hl d _ _ _ hv).1
      rw [List.length_drop, List.length_drop] at hlen
      exact ⟨v4, vK, m + 1, _, ks, p', false, hR4, by omega, by omega, h3.keep hb4, by omega, fun _ => ⟨acc ++ [V], by simp [ha], hE4 acc V ha hE hV, hKS, hp, by omega, by omega, by omega, hr⟩, (by intro h; cases h)⟩
end Go.Proofs.YtclpbjdnollfcaaDoor
