/- How the arguments of the digest's laws are read: strings, bytes, digests, numbers. -/
import Derived.Test.YtceppmajbkmbdaaDoorCards
import Derived.Test.YtceppmajbkmbdaaDoorTie
import Derived.Test.YtceppmajbkmbdaaDoorDigApp
import Derived.Lib.SmallJoins
import Derived.SizedLaws
namespace Go.Proofs.YtceppmajbkmbdaaDoor
set_option linter.unusedSimpArgs false
set_option linter.unusedVariables false
set_option maxRecDepth 100000
open Go.ChangeShapes Go.WideShapes Go.ChangeAt Go.RowKit Go.Joins

theorem own : ownKnob Tryd.prog.godebug = none := by kernel_rfl
theorem laidOut : laidOutB Tryd.prog = true := by kernel_rfl
theorem cellsByte : Tryd.prog.cellsOf 5 = 1 := by kernel_rfl
theorem bytesByte : Tryd.prog.bytesOf 5 = 1 := by kernel_rfl
theorem reachLit : reachBytes = 140737488351232 := by unfold reachBytes; rfl
theorem add_plain (b o j : Nat) : (⟨b, o, none⟩ : Addr).add j = ⟨b, o + j, none⟩ := add_flat b o j
section
variable {H : Type} {enc : TypeId × Value → H} {w : World} {b0 : Nat} {spare : Nat → Bool} {held : Bool} {r : Reach}
theorem cells_at {a : Addr} {n : Nat} {cs : List Value} (h : w.cells? 0 a n = some cs) : cs.length = n ∧ ∀ j, j < n → w.cell? (a.add j) = cs[j]? := by
  unfold World.cells? at h
  rw [if_pos (Nat.zero_le _)] at h
  exact ⟨by simpa using mapM_some_length h, fun j hj => mapM_some_get h j j (by simp [hj])⟩
theorem str_of {v : Value} {n : Nat} {y : DataW H × List MemPlace} (h : DataW.trod enc Tryd.prog w 0 spare held n 9 [v] = some y) (hz : ∀ m ∈ y.1.weights Tryd.prog 9, m ≤ reachBytes) : ∃ s : ByteArray, v = .string s ∧ s.size ≤ 140737488351232 := by
  obtain ⟨s, e, rfl, hw⟩ := DataW.trod_string Tryd.underlying9 h
  simp only [List.cons.injEq, and_true] at e
  refine ⟨s, e, ?_⟩
  have := hz s.data.toList.length (by simp [DataW.weights])
  have e2 : s.data.toList.length = s.size := by simp
  rw [e2, reachLit] at this
  exact this
theorem weights_all {P : Program} {e : TypeId} : ∀ {ds : List (DataW H)} {i : Nat} {d : DataW H}, ds[i]? = some d → ∀ m ∈ d.weights P e, m ∈ DataW.weightsAll P e ds
  | [], i, d, h, _, _ => by simp at h
  | x :: r, 0, d, h, m, hm => by simp at h; subst h; simp only [DataW.weightsAll, List.mem_append]; exact .inl hm
  | x :: r, i + 1, d, h, m, hm => by simp only [DataW.weightsAll, List.mem_append]; exact .inr (weights_all (by simpa using h) m hm)
theorem slice_rows {t e : TypeId} {sz bz : Nat} (ht : Tryd.prog.underlying t = some (.slice e)) (hc : Tryd.prog.cellsOf e = sz) (hsz : 0 < sz) (hb : Tryd.prog.bytesOf e = bz) (hbz : 1 ≤ bz) {n : Nat} {v : Value} {y : DataW H × List MemPlace}
    (h : DataW.trod enc Tryd.prog w 0 spare held n t [v] = some y) (hz : ∀ m ∈ y.1.weights Tryd.prog t, m ≤ reachBytes) :
    ∃ (A : Option Addr) (len cap : Nat), v = .slice A len cap ∧ len ≤ cap ∧ len * bz ≤ 140737488351232 ∧ cap ≤ 9223372036854775807 ∧ (A = none → len = 0 ∧ cap = 0) ∧
      ∃ b o n', (0 < len → n = n' + 1 ∧ A = some ⟨b, o, none⟩ ∧ b < w.heap.size) ∧ (A ≠ none → 0 < len ∨ ∃ a, A = some a) ∧
        ∀ i, i < len → ∃ cs yi, (∀ j, j < sz → w.cell? ⟨b, o + i * sz + j, none⟩ = cs[j]?) ∧ cs.length = sz ∧ DataW.trod enc Tryd.prog w 0 spare held n' e cs = some yi ∧ ∀ m ∈ yi.1.weights Tryd.prog e, m ≤ reachBytes := by
  rcases DataW.trod_slice ht h with ⟨hcs, rfl⟩ | ⟨a, len, cap, elems, rest, n', rfl, hcs, rfl, _, hl, hm, hel, hrow, _, _⟩
  · simp only [List.cons.injEq, and_true] at hcs
    subst hcs
    exact ⟨none, 0, 0, rfl, Nat.le_refl _, by omega, by omega, fun _ => ⟨rfl, rfl⟩, 0, 0, 0, fun h => absurd h (by omega), fun h => absurd rfl h, fun i hi => absurd hi (by omega)⟩
  · simp only [List.cons.injEq, and_true] at hcs
    subst hcs
    have hlw : len * bz ≤ 140737488351232 := by
      have := hz ((elems.length + rest.length) * bz) (by simp [DataW.weights, ht, hb])
      have h2 : len * bz ≤ (elems.length + rest.length) * bz := Nat.mul_le_mul_right _ (by omega)
      rw [reachLit] at this
      omega
    have hone : ∀ i, i < len → ∃ cs yi, w.cells? 0 (a.add (i * sz)) sz = some cs ∧ DataW.trod enc Tryd.prog w 0 spare held n' e cs = some yi ∧ elems[i]? = some yi := fun i hi => by
      have h1 := hrow i hi
      rw [List.getElem?_eq_getElem (by omega), hc] at h1
      obtain ⟨cs, h2, h3⟩ := Option.bind_eq_some_iff.1 h1
      exact ⟨cs, _, h2, h3, by rw [List.getElem?_eq_getElem (by omega)]⟩
    have hspot : 0 < len → a.spot = none ∧ a.block < w.heap.size := fun h0 => by
      obtain ⟨cs, yi, h1, _, _⟩ := hone 0 h0
      have hc0 := (cells_at h1).2 0 hsz
      have hlen := (cells_at h1).1
      rw [List.getElem?_eq_getElem (by omega)] at hc0
      have hs := World.cell?_spot hc0
      have hb := World.block_lt_of_cell? w _ hc0
      simp only [Nat.zero_mul] at hs hb
      unfold Addr.add at hs hb
      simp only [if_true] at hs hb
      exact ⟨hs, hb⟩
    refine ⟨some a, len, cap, rfl, hl, hlw, (by unfold maxLen at hm; omega), (fun h => by cases h), a.block, a.off, n', fun h0 => ?_, fun _ => .inr ⟨a, rfl⟩, fun i hi => ?_⟩
    · obtain ⟨hs, hb⟩ := hspot h0
      obtain ⟨b, o, spot⟩ := a
      simp only at hs
      subst hs
      exact ⟨rfl, rfl, hb⟩
    · obtain ⟨cs, yi, h1, h2, h3⟩ := hone i hi
      have hlen := (cells_at h1).1
      refine ⟨cs, yi, fun j hj => ?_, hlen, h2, fun m hm => hz m ?_⟩
      · have := (cells_at h1).2 j hj
        obtain ⟨hs, _⟩ := hspot (by omega)
        obtain ⟨b, o, spot⟩ := a
        simp only at hs
        subst hs
        rw [add_plain, add_plain] at this
        exact this
      · simp only [DataW.weights, ht, List.mem_cons, List.mem_append]
        exact .inr (.inl (weights_all (by rw [List.getElem?_map, h3]; rfl) m hm))
theorem list_of {α : Type} {len : Nat} {R : Nat → α → Prop} (h : ∀ i, i < len → ∃ x, R i x) : ∃ l : List α, l.length = len ∧ ∀ i x, l[i]? = some x → R i x := by
  induction len with
  | zero => exact ⟨[], rfl, fun i x hx => by simp at hx⟩
  | succ n ih =>
    obtain ⟨l, hl, hr⟩ := ih fun i hi => h i (by omega)
    obtain ⟨x, hx⟩ := h n (by omega)
    refine ⟨l ++ [x], by simp [hl], fun i y hy => ?_⟩
    by_cases hi : i < n
    · rw [List.getElem?_append_left (by omega)] at hy
      exact hr i y hy
    · have hi2 := (List.getElem?_eq_some_iff.1 hy).1
      simp at hi2
      obtain rfl : i = n := by omega
      rw [List.getElem?_append_right (by omega)] at hy
      simp [hl] at hy
      subst hy
      exact hx
theorem string_of {v : Value} {d : DataW H} {p : List MemPlace} (hv : Value.okWide Tryd.prog w r b0 9 v) (h : DataW.Trod enc Tryd.prog w 0 spare held 9 v d p) (hz : ∀ m ∈ d.weights Tryd.prog 9, m ≤ reachBytes) :
    ∃ s : ByteArray, v = .string s ∧ s.size ≤ 140737488351232 := by
  obtain ⟨s0, rfl⟩ := okWide_string Tryd.underlying9 hv
  obtain ⟨fuel, hf⟩ := h
  exact str_of (by simpa [Value.cells] using hf) hz
theorem slice_at {t e : TypeId} (ht : Tryd.prog.underlying t = some (.slice e)) {a : Addr} {len cap : Nat} (hv : Value.okWide Tryd.prog w r b0 t (.slice (some a) len cap)) : a.spot = none ∧ a.block < w.heap.size := by
  simp only [Value.okWide, ht, Cell.okWide, Cell.ok] at hv
  obtain ⟨_, _, _, hs, row, cells, hsh, _⟩ := hv
  refine ⟨hs, ?_⟩
  unfold World.shape? at hsh
  rcases Nat.lt_or_ge a.block w.heap.size with h | h
  · exact h
  · rw [Array.getElem?_eq_none h] at hsh
    simp at hsh
theorem bytes_of {v : Value} {d : DataW H} {p : List MemPlace} (hv : Value.okWide Tryd.prog w r b0 22 v) (h : DataW.Trod enc Tryd.prog w 0 spare held 22 v d p) (hz : ∀ m ∈ d.weights Tryd.prog 22, m ≤ reachBytes) :
    ∃ A c l, v = .slice A l.length c ∧ l.length ≤ c ∧ (A = none → c = 0) ∧ l.length ≤ 140737488351232 ∧ Bt w A l := by
  obtain ⟨A0, len0, cap0, rfl⟩ := okWide_slice Tryd.underlying22 hv
  obtain ⟨fuel, hf⟩ := h
  obtain ⟨A, len, cap, e, hlc, hlw, hcm, hA, b, o, n', h0, hsome, hrow⟩ := slice_rows Tryd.underlying22 cellsByte (by decide) bytesByte (by decide) (by simpa [Value.cells] using hf) hz
  injection e with e1 e2 e3
  subst e1 e2 e3
  obtain ⟨l, hll, hr⟩ := list_of (len := len0) (R := fun i (u : Int) => w.cell? ⟨b, o + i, none⟩ = some (.int .u8 u) ∧ Byt u) fun i hi => by
    obtain ⟨ds, yi, hc, hdl, ht, hzi⟩ := hrow i hi
    match ds, hdl with
    | [c], _ =>
      obtain ⟨k, e, _, hw⟩ := DataW.trod_int Tryd.underlying5 ht
      simp only [List.cons.injEq, and_true] at e
      subst e
      have := hc 0 (by decide)
      simp only [Nat.mul_one, Nat.add_zero] at this
      simp only [Lit.wf, Bool.and_eq_true, decide_eq_true_eq] at hw
      have hk : (0 : Int) ≤ k ∧ k ≤ 255 := ⟨hw.1, hw.2⟩
      exact ⟨k, this, hk.1, by omega⟩
  refine ⟨A0, cap0, l, by rw [hll], by omega, fun e => (hA e).2, by omega, fun x hx => ?_, fun hl => ?_⟩
  · obtain ⟨i, hi⟩ := List.getElem?_of_mem hx
    exact (hr i x hi).2
  · have h0' : 0 < len0 := by have := List.length_pos_iff.2 hl; omega
    refine ⟨b, o, (h0 h0').2.1, fun j hj => ?_⟩
    rw [(hr j l[j] (List.getElem?_eq_getElem hj)).1, List.getD_eq_getElem?_getD, List.getElem?_eq_getElem hj]
    rfl
end
end Go.Proofs.YtceppmajbkmbdaaDoor
