/- How the arguments of the codec's laws are read: values of type api.Value, however deep, lists of them, strings and bytes. -/
import Derived.Test.YtclpbjdnollfcaaDoorCards
import Derived.Test.YtclpbjdnollfcaaDoorTie
import Derived.Test.YtclpbjdnollfcaaDoorCodLaw
import Derived.Lib.SmallJoins
import Derived.SizedLaws
namespace Go.Proofs.YtclpbjdnollfcaaDoor
set_option linter.unusedSimpArgs false
set_option linter.unusedVariables false
set_option maxRecDepth 100000
open Go.ChangeShapes Go.WideShapes Go.ChangeAt Go.RowKit Go.Joins

theorem own : ownKnob Tryd.prog.godebug = none := by kernel_rfl
theorem laidOut : laidOutB Tryd.prog = true := by kernel_rfl
theorem cellsVal : Tryd.prog.cellsOf 25 = 5 := by kernel_rfl
theorem cellsStr : Tryd.prog.cellsOf 9 = 1 := by kernel_rfl
theorem cellsInt : Tryd.prog.cellsOf 3 = 1 := by kernel_rfl
theorem cellsByte : Tryd.prog.cellsOf 5 = 1 := by kernel_rfl
theorem cellsSv : Tryd.prog.cellsOf 22 = 1 := by kernel_rfl
theorem cellsSs : Tryd.prog.cellsOf 23 = 1 := by kernel_rfl
theorem bytesVal : Tryd.prog.bytesOf 25 = 80 := by kernel_rfl
theorem bytesStr : Tryd.prog.bytesOf 9 = 16 := by kernel_rfl
theorem bytesByte : Tryd.prog.bytesOf 5 = 1 := by kernel_rfl

theorem reachLit : reachBytes = 140737488351232 := by unfold reachBytes; rfl

section
variable {H : Type} {enc : TypeId × Value → H} {w : World} {b0 : Nat} {spare : Nat → Bool} {held : Bool} {r : Reach}
theorem cells_at {a : Addr} {n : Nat} {cs : List Value} (h : w.cells? 0 a n = some cs) : cs.length = n ∧ ∀ j, j < n → w.cell? (a.add j) = cs[j]? := by
  unfold World.cells? at h
  rw [if_pos (Nat.zero_le _)] at h
  exact ⟨by simpa using mapM_some_length h, fun j hj => mapM_some_get h j j (by simp [hj])⟩
theorem int_of {v : Value} {n : Nat} {y : DataW H × List MemPlace} (h : DataW.trod enc Tryd.prog w 0 spare held n 3 [v] = some y) : ∃ k : Int, v = .int .i64 k ∧ I64 k := by
  obtain ⟨k, e, _, hw⟩ := DataW.trod_int Tryd.underlying3 h
  simp only [List.cons.injEq, and_true] at e
  refine ⟨k, e, ?_⟩
  simp only [Lit.wf, Bool.and_eq_true, decide_eq_true_eq] at hw
  exact ⟨hw.1, hw.2⟩
theorem str_of {v : Value} {n : Nat} {y : DataW H × List MemPlace} (h : DataW.trod enc Tryd.prog w 0 spare held n 9 [v] = some y) (hz : ∀ m ∈ y.1.weights Tryd.prog 9, m ≤ reachBytes) : ∃ s : ByteArray, v = .string s ∧ s.size ≤ 140737488351232 := by
  obtain ⟨s, e, rfl, hw⟩ := DataW.trod_string Tryd.underlying9 h
  simp only [List.cons.injEq, and_true] at e
  refine ⟨s, e, ?_⟩
  have := hz s.data.toList.length (by simp [DataW.weights])
  have e2 : s.data.toList.length = s.size := by simp
  rw [e2, reachLit] at this
  exact this
theorem weights_all {P : Program} {e : TypeId} : ∀ {ds : List (DataW H)} {i : Nat} {d : DataW H}, ds[i]? = some d → ∀ m ∈ d.weights P e, m ∈ DataW.weightsAll P e ds
  | [], i, d, h, _, _ => by simp at h
  | x :: r, 0, d, h, m, hm => by simp at h; subst h; simp only [DataW.weightsAll, List.mem_append]; exact .inl hm
  | x :: r, i + 1, d, h, m, hm => by simp only [DataW.weightsAll, List.mem_append]; exact .inr (weights_all (by simpa using h) m hm)
/-- a slice, element by element -/
theorem slice_rows {t e : TypeId} {sz bz : Nat} (ht : Tryd.prog.underlying t = some (.slice e)) (hc : Tryd.prog.cellsOf e = sz) (hsz : 0 < sz) (hb : Tryd.prog.bytesOf e = bz) (hbz : 1 ≤ bz) {n : Nat} {v : Value} {y : DataW H × List MemPlace}
    (h : DataW.trod enc Tryd.prog w 0 spare held n t [v] = some y) (hz : ∀ m ∈ y.1.weights Tryd.prog t, m ≤ reachBytes) :
    ∃ (A : Option Addr) (len cap : Nat), v = .slice A len cap ∧ len ≤ cap ∧ len * bz ≤ 140737488351232 ∧ cap ≤ 9223372036854775807 ∧ (A = none → len = 0 ∧ cap = 0) ∧
      ∃ b o n', (0 < len → n = n' + 1 ∧ A = some ⟨b, o, none⟩ ∧ b < w.heap.size) ∧ (A ≠ none → 0 < len ∨ ∃ a, A = some a) ∧
        ∀ i, i < len → ∃ cs yi, (∀ j, j < sz → w.cell? ⟨b, o + i * sz + j, none⟩ = cs[j]?) ∧ cs.length = sz ∧ DataW.trod enc Tryd.prog w 0 spare held n' e cs = some yi ∧ ∀ m ∈ yi.1.weights Tryd.prog e, m ≤ reachBytes := by
  rcases DataW.trod_slice ht h with ⟨hcs, rfl⟩ | ⟨a, len, cap, elems, rest, n', rfl, hcs, rfl, _, hl, hm, hel, hrow, _, _⟩
  · simp only [List.cons.injEq, and_true] at hcs
    subst hcs
    exact ⟨none, 0, 0, rfl, Nat.le_refl _, by omega, by omega, fun _ => ⟨rfl, rfl⟩, 0, 0, 0, fun h => absurd h (by omega), fun h => absurd rfl h, fun i hi => absurd hi (by omega)⟩
  · simp only [List.cons.injEq, and_true] at hcs
    subst hcs
    have hlw : len * bz ≤ 140737488351232 := by
      have := hz ((elems.length + rest.length) * bz) (by simp [DataW.weights, ht, hb])
      have h2 : len * bz ≤ (elems.length + rest.length) * bz := Nat.mul_le_mul_right _ (by omega)
      rw [reachLit] at this
      omega
    have hone : ∀ i, i < len → ∃ cs yi, w.cells? 0 (a.add (i * sz)) sz = some cs ∧ DataW.trod enc Tryd.prog w 0 spare held n' e cs = some yi ∧ elems[i]? = some yi := fun i hi => by
      have h1 := hrow i hi
      rw [List.getElem?_eq_getElem (by omega), hc] at h1
      obtain ⟨cs, h2, h3⟩ := Option.bind_eq_some_iff.1 h1
      exact ⟨cs, _, h2, h3, by rw [List.getElem?_eq_getElem (by omega)]⟩
    have hspot : 0 < len → a.spot = none ∧ a.block < w.heap.size := fun h0 => by
      obtain ⟨cs, yi, h1, _, _⟩ := hone 0 h0
      have hc0 := (cells_at h1).2 0 hsz
      have hlen := (cells_at h1).1
      rw [List.getElem?_eq_getElem (by omega)] at hc0
      have hs := World.cell?_spot hc0
      have hb := World.block_lt_of_cell? w _ hc0
      simp only [Nat.zero_mul] at hs hb
      unfold Addr.add at hs hb
      simp only [if_true] at hs hb
      exact ⟨hs, hb⟩
    refine ⟨some a, len, cap, rfl, hl, hlw, (by unfold maxLen at hm; omega), (fun h => by cases h), a.block, a.off, n', fun h0 => ?_, fun _ => .inr ⟨a, rfl⟩, fun i hi => ?_⟩
    · obtain ⟨hs, hb⟩ := hspot h0
      obtain ⟨b, o, spot⟩ := a
      simp only at hs
      subst hs
      exact ⟨rfl, rfl, hb⟩
    · obtain ⟨cs, yi, h1, h2, h3⟩ := hone i hi
      have hlen := (cells_at h1).1
      refine ⟨cs, yi, fun j hj => ?_, hlen, h2, fun m hm => hz m ?_⟩
      · have := (cells_at h1).2 j hj
        obtain ⟨hs, _⟩ := hspot (by omega)
        obtain ⟨b, o, spot⟩ := a
        simp only at hs
        subst hs
        rw [add_plain, add_plain] at this
        exact this
      · simp only [DataW.weights, ht, List.mem_cons, List.mem_append]
        exact .inr (.inl (weights_all (by rw [List.getElem?_map, h3]; rfl) m hm))
theorem five_list {cs : List Value} (h : cs.length = 5) : ∃ c0 c1 c2 c3 c4, cs = [c0, c1, c2, c3, c4] := by
  match cs, h with
  | [c0, c1, c2, c3, c4], _ => exact ⟨c0, c1, c2, c3, c4, rfl⟩
/-- a list of what each index has -/
theorem list_of {α : Type} {len : Nat} {R : Nat → α → Prop} (h : ∀ i, i < len → ∃ x, R i x) : ∃ l : List α, l.length = len ∧ ∀ i x, l[i]? = some x → R i x := by
  induction len with
  | zero => exact ⟨[], rfl, fun i x hx => by simp at hx⟩
  | succ n ih =>
    obtain ⟨l, hl, hr⟩ := ih fun i hi => h i (by omega)
    obtain ⟨x, hx⟩ := h n (by omega)
    refine ⟨l ++ [x], by simp [hl], fun i y hy => ?_⟩
    by_cases hi : i < n
    · rw [List.getElem?_append_left (by omega)] at hy
      exact hr i y hy
    · have hi2 := (List.getElem?_eq_some_iff.1 hy).1
      simp at hi2
      obtain rfl : i = n := by omega
      rw [List.getElem?_append_right (by omega)] at hy
      simp [hl] at hy
      subst hy
      exact hx
theorem strs_trod {n : Nat} {v : Value} {y : DataW H × List MemPlace} (h : DataW.trod enc Tryd.prog w 0 spare held n 23 [v] = some y) (hz : ∀ m ∈ y.1.weights Tryd.prog 23, m ≤ reachBytes) :
    ∃ A cap ks, v = .slice A ks.length cap ∧ ks.length ≤ 140737488351232 ∧ (A = none → cap = 0) ∧ StrsAt w A ks := by
  obtain ⟨A, len, cap, rfl, hlc, hlw, _, hA, b, o, n', h0, _, hrow⟩ := slice_rows Tryd.underlying23 cellsStr (by decide) bytesStr (by decide) h hz
  obtain ⟨ks, hks, hr⟩ := list_of (len := len) (R := fun i s => w.cell? ⟨b, o + i, none⟩ = some (.string s) ∧ s.size ≤ 140737488351232) fun i hi => by
    obtain ⟨cs, yi, hc, hl, ht, hzi⟩ := hrow i hi
    match cs, hl with
    | [c], _ =>
      obtain ⟨s, rfl, hs⟩ := str_of ht hzi
      have := hc 0 (by decide)
      simp only [Nat.mul_one, Nat.add_zero] at this
      exact ⟨s, this, hs⟩
  refine ⟨A, cap, ks, by rw [hks], by omega, fun e => (hA e).2, fun i s hs => ?_⟩
  have hi := (List.getElem?_eq_some_iff.1 hs).1
  exact ⟨b, o, (h0 (by omega)).2.1, (hr i s hs).1, (hr i s hs).2⟩
theorem value_trod : ∀ (n : Nat) (cs : List Value) (y : DataW H × List MemPlace), DataW.trod enc Tryd.prog w 0 spare held n 25 cs = some y → (∀ m ∈ y.1.weights Tryd.prog 25, m ≤ reachBytes) → ∃ V, VAt w V (.agg cs.toArray) := by
  intro n
  induction n using Nat.strongRecOn with
  | _ n ih =>
    intro cs y h hz
    obtain ⟨xs, m, rfl, rfl, hl, hlen, hf⟩ := DataW.trod_struct Tryd.underlying25 h
    rw [cellsVal] at hl
    obtain ⟨c0, c1, c2, c3, c4, rfl⟩ := five_list hl
    have hlen5 : xs.length = 5 := hlen
    match xs, hlen5 with
    | [y0, y1, y2, y3, y4], _ =>
      have t0 := hf 0 _ rfl
      have t1 := hf 1 _ rfl
      have t2 := hf 2 _ rfl
      have t3 := hf 3 _ rfl
      have t4 := hf 4 _ rfl
      simp [cellsInt, cellsStr, cellsSv, cellsSs] at t0 t1 t2 t3 t4
      have hw : ∀ (j : Nat) (t : TypeId) (yj : DataW H × List MemPlace), ([3, 3, 9, 22, 23] : List TypeId)[j]? = some t → [y0, y1, y2, y3, y4][j]? = some yj → ∀ q ∈ yj.1.weights Tryd.prog t, q ≤ reachBytes := fun j t yj ht hy q hq => by
        refine hz q ?_
        simp only [DataW.weights, Tryd.underlying25]
        exact DataW.weights_mem_each (ts := [3, 3, 9, 22, 23]) ht (by rw [List.getElem?_map, hy]; rfl) q hq
      obtain ⟨k, rfl, hk⟩ := int_of t0
      obtain ⟨nn, rfl, hn⟩ := int_of t1
      obtain ⟨s, rfl, hs⟩ := str_of t2 (hw 2 _ _ rfl rfl)
      obtain ⟨A, len, cap, rfl, hlc, hlw, _, hA, b, o, n', h0, _, hrow⟩ := slice_rows Tryd.underlying22 cellsVal (by decide) bytesVal (by decide) t3 (hw 3 _ _ rfl rfl)
      obtain ⟨A', cap', ks, rfl, hkl, hA', hks⟩ := strs_trod t4 (hw 4 _ _ rfl rfl)
      obtain ⟨l, hll, hr⟩ := list_of (len := len) (R := fun i V => ∃ d0 d1 d2 d3 d4, w.cell? ⟨b, o + i * 5, none⟩ = some d0 ∧ w.cell? ⟨b, o + i * 5 + 1, none⟩ = some d1 ∧ w.cell? ⟨b, o + i * 5 + 2, none⟩ = some d2 ∧ w.cell? ⟨b, o + i * 5 + 3, none⟩ = some d3 ∧ w.cell? ⟨b, o + i * 5 + 4, none⟩ = some d4 ∧ VAt w V (.agg #[d0, d1, d2, d3, d4])) fun i hi => by
        obtain ⟨ds, yi, hc, hdl, ht, hzi⟩ := hrow i hi
        obtain ⟨hm', _, _⟩ := h0 (by omega)
        obtain ⟨V, hV⟩ := ih n' (by omega) ds yi ht hzi
        obtain ⟨d0, d1, d2, d3, d4, rfl⟩ := five_list hdl
        exact ⟨V, d0, d1, d2, d3, d4, hc 0 (by decide), hc 1 (by decide), hc 2 (by decide), hc 3 (by decide), hc 4 (by decide), hV⟩
      refine ⟨.mk k nn s l ks, ?_⟩
      have e3 : len = l.length := hll.symm
      subst e3
      refine .mk k nn s l ks A cap A' cap' hk hn hs (by omega) hkl (fun e => (hA e).2) hA' b o (fun i => .agg #[(w.cell? ⟨b, o + i * 5, none⟩).getD undef, (w.cell? ⟨b, o + i * 5 + 1, none⟩).getD undef, (w.cell? ⟨b, o + i * 5 + 2, none⟩).getD undef, (w.cell? ⟨b, o + i * 5 + 3, none⟩).getD undef, (w.cell? ⟨b, o + i * 5 + 4, none⟩).getD undef]) (fun i hi => ?_) (fun i x hx => ?_) hks
      · obtain ⟨d0, d1, d2, d3, d4, q0, q1, q2, q3, q4, _⟩ := hr i _ (List.getElem?_eq_getElem hi)
        refine ⟨(h0 (by omega)).2.1, d0, d1, d2, d3, d4, ?_, q0, q1, q2, q3, q4⟩
        simp only [q0, q1, q2, q3, q4, Option.getD_some]
      · obtain ⟨d0, d1, d2, d3, d4, q0, q1, q2, q3, q4, hv⟩ := hr i x hx
        simp only [q0, q1, q2, q3, q4, Option.getD_some]
        exact hv
theorem value_of {v : Value} {d : DataW H} {p : List MemPlace} (hv : Value.okWide Tryd.prog w r b0 25 v) (h : DataW.Trod enc Tryd.prog w 0 spare held 25 v d p) (hz : ∀ m ∈ d.weights Tryd.prog 25, m ≤ reachBytes) :
    ∃ V, VAt w V v := by
  obtain ⟨cs, rfl, hsz⟩ := okWide_struct Tryd.underlying25 hv
  obtain ⟨fuel, hf⟩ := h
  obtain ⟨V, hV⟩ := value_trod fuel _ _ hf hz
  exact ⟨V, by simpa [Value.cells] using hV⟩
theorem values_of {v : Value} {d : DataW H} {p : List MemPlace} (hv : Value.okWide Tryd.prog w r b0 22 v) (h : DataW.Trod enc Tryd.prog w 0 spare held 22 v d p) (hz : ∀ m ∈ d.weights Tryd.prog 22, m ≤ reachBytes) :
    ∃ A cap l, v = .slice A l.length cap ∧ ElsAt w A l ∧ l.length * 80 ≤ 140737488351232 ∧ (A = none → cap = 0) ∧ l.length ≤ cap := by
  obtain ⟨A0, len0, cap0, rfl⟩ := okWide_slice Tryd.underlying22 hv
  obtain ⟨fuel, hf⟩ := h
  obtain ⟨A, len, cap, e, hlc, hlw, _, hA, b, o, n', h0, _, hrow⟩ := slice_rows Tryd.underlying22 cellsVal (by decide) bytesVal (by decide) (by simpa [Value.cells] using hf) hz
  injection e with e1 e2 e3
  subst e1 e2 e3
  obtain ⟨l, hll, hr⟩ := list_of (len := len0) (R := fun i V => ∃ d0 d1 d2 d3 d4, w.cell? ⟨b, o + i * 5, none⟩ = some d0 ∧ w.cell? ⟨b, o + i * 5 + 1, none⟩ = some d1 ∧ w.cell? ⟨b, o + i * 5 + 2, none⟩ = some d2 ∧ w.cell? ⟨b, o + i * 5 + 3, none⟩ = some d3 ∧ w.cell? ⟨b, o + i * 5 + 4, none⟩ = some d4 ∧ VAt w V (.agg #[d0, d1, d2, d3, d4])) fun i hi => by
    obtain ⟨ds, yi, hc, hdl, ht, hzi⟩ := hrow i hi
    obtain ⟨V, hV⟩ := value_trod n' ds yi ht hzi
    obtain ⟨d0, d1, d2, d3, d4, rfl⟩ := five_list hdl
    exact ⟨V, d0, d1, d2, d3, d4, hc 0 (by decide), hc 1 (by decide), hc 2 (by decide), hc 3 (by decide), hc 4 (by decide), hV⟩
  refine ⟨A0, cap0, l, by rw [hll], fun i x hx => ?_, by rw [hll]; exact hlw, fun e => (hA e).2, by omega⟩
  have hi := (List.getElem?_eq_some_iff.1 hx).1
  obtain ⟨d0, d1, d2, d3, d4, q0, q1, q2, q3, q4, hv⟩ := hr i x hx
  obtain ⟨k, n, s, A1, m, c, A2, m', c', e⟩ := hv.form
  injection e with e
  have e' : d0 = .int .i64 k ∧ d1 = .int .i64 n ∧ d2 = .string s ∧ d3 = .slice A1 m c ∧ d4 = .slice A2 m' c' := by simpa using e
  obtain ⟨rfl, rfl, rfl, rfl, rfl⟩ := e'
  exact ⟨b, o, k, n, s, A1, m, c, A2, m', c', (h0 (by omega)).2.1, q0, q1, q2, q3, q4, hv⟩
theorem string_of {v : Value} {d : DataW H} {p : List MemPlace} (hv : Value.okWide Tryd.prog w r b0 9 v) (h : DataW.Trod enc Tryd.prog w 0 spare held 9 v d p) (hz : ∀ m ∈ d.weights Tryd.prog 9, m ≤ reachBytes) :
    ∃ s : ByteArray, v = .string s ∧ s.size ≤ 140737488351232 := by
  obtain ⟨s0, rfl⟩ := okWide_string Tryd.underlying9 hv
  obtain ⟨fuel, hf⟩ := h
  exact str_of (by simpa [Value.cells] using hf) hz
theorem slice_at {t e : TypeId} (ht : Tryd.prog.underlying t = some (.slice e)) {a : Addr} {len cap : Nat} (hv : Value.okWide Tryd.prog w r b0 t (.slice (some a) len cap)) : a.spot = none ∧ a.block < w.heap.size := by
  simp only [Value.okWide, ht, Cell.okWide, Cell.ok] at hv
  obtain ⟨_, _, _, hs, row, cells, hsh, _⟩ := hv
  refine ⟨hs, ?_⟩
  unfold World.shape? at hsh
  rcases Nat.lt_or_ge a.block w.heap.size with h | h
  · exact h
  · rw [Array.getElem?_eq_none h] at hsh
    simp at hsh
theorem bytes_of {v : Value} {d : DataW H} {p : List MemPlace} (hv : Value.okWide Tryd.prog w r b0 28 v) (h : DataW.Trod enc Tryd.prog w 0 spare held 28 v d p) (hz : ∀ m ∈ d.weights Tryd.prog 28, m ≤ reachBytes) :
    ∃ l, BAt w v l := by
  obtain ⟨A0, len0, cap0, rfl⟩ := okWide_slice Tryd.underlying28 hv
  obtain ⟨fuel, hf⟩ := h
  obtain ⟨A, len, cap, e, hlc, hlw, hcm, hA, b, o, n', h0, hsome, hrow⟩ := slice_rows Tryd.underlying28 cellsByte (by decide) bytesByte (by decide) (by simpa [Value.cells] using hf) hz
  injection e with e1 e2 e3
  subst e1 e2 e3
  obtain ⟨l, hll, hr⟩ := list_of (len := len0) (R := fun i (u : UInt8) => w.cell? ⟨b, o + i, none⟩ = some (.int .u8 (u.toNat : Int))) fun i hi => by
    obtain ⟨ds, yi, hc, hdl, ht, hzi⟩ := hrow i hi
    match ds, hdl with
    | [c], _ =>
      obtain ⟨k, e, _, hw⟩ := DataW.trod_int Tryd.underlying5 ht
      simp only [List.cons.injEq, and_true] at e
      subst e
      have := hc 0 (by decide)
      simp only [Nat.mul_one, Nat.add_zero] at this
      simp only [Lit.wf, Bool.and_eq_true, decide_eq_true_eq] at hw
      have hk : (0 : Int) ≤ k ∧ k ≤ 255 := ⟨hw.1, hw.2⟩
      refine ⟨UInt8.ofNat k.toNat, ?_⟩
      rw [this]
      have e : (((UInt8.ofNat k.toNat).toNat : Nat) : Int) = k := by rw [UInt8.toNat_ofNat']; omega
      rw [e]
      rfl
  refine ⟨l, A0, cap0, by rw [hll], ?_, by omega, hcm, fun i u hu => ?_⟩
  · cases A0 with
    | none => exact .inl ⟨rfl, List.length_eq_zero_iff.1 (by rw [hll]; exact (hA rfl).1), (hA rfl).2⟩
    | some a =>
      obtain ⟨hsp, hlt⟩ := slice_at Tryd.underlying28 hv
      obtain ⟨g, o, spot⟩ := a
      simp only at hsp hlt
      subst hsp
      exact .inr ⟨g, o, rfl, hlt⟩
  · have hi := (List.getElem?_eq_some_iff.1 hu).1
    exact ⟨b, o, (h0 (by omega)).2.1, hr i u hu⟩
end
end Go.Proofs.YtclpbjdnollfcaaDoor
