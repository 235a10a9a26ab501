/- How a key and a digest are read as arguments. -/
import Derived.Test.YtceppmajbkmbdaaDoorDigEnv
import Derived.Test.YtceppmajbkmbdaaDoorSigSane
namespace Go.Proofs.YtceppmajbkmbdaaDoor
set_option linter.unusedSimpArgs false
set_option linter.unusedVariables false
set_option maxRecDepth 100000
open Go.ChangeShapes Go.WideShapes Go.ChangeAt Go.RowKit Go.Joins

theorem cellsDig : Tryd.prog.cellsOf 24 = 32 := by kernel_rfl
theorem cellsKey : Tryd.prog.cellsOf 40 = 3 := by kernel_rfl
section
variable {H : Type} {enc : TypeId × Value → H} {w : World} {b0 : Nat} {spare : Nat → Bool} {held : Bool} {r : Reach}
theorem int_at {v : Value} {n base : Nat} {y : DataW H × List MemPlace} (h : DataW.trod enc Tryd.prog w base spare held n 3 [v] = some y) : ∃ k : Int, v = .int .i64 k ∧ -9223372036854775808 ≤ k ∧ k ≤ 9223372036854775807 := by
  obtain ⟨k, e, _, hw⟩ := DataW.trod_int Tryd.underlying3 h
  simp only [List.cons.injEq, and_true] at e
  refine ⟨k, e, ?_⟩
  have := hw
  simp only [Lit.wf, Bool.and_eq_true, decide_eq_true_eq] at this
  exact ⟨this.1, this.2⟩
theorem bytes_at {v : Value} {n : Nat} {y : DataW H × List MemPlace} (h : DataW.trod enc Tryd.prog w 0 spare held n 22 [v] = some y) (hz : ∀ m ∈ y.1.weights Tryd.prog 22, m ≤ reachBytes) :
    ∃ A c l, v = .slice A l.length c ∧ l.length ≤ c ∧ (A = none → c = 0) ∧ l.length ≤ 140737488351232 ∧ Bt w A l := by
  obtain ⟨A, len, cap, e, hlc, hlw, hcm, hA, b, o, n', h0, hsome, hrow⟩ := slice_rows Tryd.underlying22 cellsByte (by decide) bytesByte (by decide) h hz
  subst e
  obtain ⟨l, hll, hr⟩ := list_of (len := len) (R := fun i (u : Int) => w.cell? ⟨b, o + i, none⟩ = some (.int .u8 u) ∧ Byt u) fun i hi => by
    obtain ⟨ds, yi, hc, hdl, ht, hzi⟩ := hrow i hi
    match ds, hdl with
    | [c], _ =>
      obtain ⟨k, e, _, hw⟩ := DataW.trod_int Tryd.underlying5 ht
      simp only [List.cons.injEq, and_true] at e
      subst e
      have := hc 0 (by decide)
      simp only [Nat.mul_one, Nat.add_zero] at this
      simp only [Lit.wf, Bool.and_eq_true, decide_eq_true_eq] at hw
      have hk : (0 : Int) ≤ k ∧ k ≤ 255 := ⟨hw.1, hw.2⟩
      exact ⟨k, this, hk.1, by omega⟩
  refine ⟨A, cap, l, by rw [hll], by omega, fun e => (hA e).2, by omega, fun x hx => ?_, fun hl => ?_⟩
  · obtain ⟨i, hi⟩ := List.getElem?_of_mem hx
    exact (hr i x hi).2
  · have h0' : 0 < len := by have := List.length_pos_iff.2 hl; omega
    refine ⟨b, o, (h0 h0').2.1, fun j hj => ?_⟩
    rw [(hr j l[j] (List.getElem?_eq_getElem hj)).1, List.getD_eq_getElem?_getD, List.getElem?_eq_getElem hj]
    rfl
theorem key_of {v : Value} {d : DataW H} {p : List MemPlace} (hv : Value.okWide Tryd.prog w r b0 40 v) (h : DataW.Trod enc Tryd.prog w 0 spare held 40 v d p) (hz : ∀ m ∈ d.weights Tryd.prog 40, m ≤ reachBytes) :
    ∃ A c l m u, v = keyV A l.length c m u ∧ l.length ≤ c ∧ (A = none → c = 0) ∧ Bt w A l ∧ l.length ≤ 140737488351232 ∧ (-9223372036854775808 ≤ m ∧ m ≤ 9223372036854775807) ∧ (-9223372036854775808 ≤ u ∧ u ≤ 9223372036854775807) := by
  obtain ⟨v0, v1, v2, y0, y1, y2, n, rfl, rfl, _, t0, t1, t2⟩ := open_agg3 Tryd.underlying40 (by kernel_rfl) cellsKey hv h
  obtain ⟨A, c, l, rfl, h1, h2, h3, h4⟩ := bytes_at t0 (fun m hm => hz m (by
    simp only [DataW.weights, Tryd.underlying40]
    simp [DataW.weightsEach, hm]))
  obtain ⟨m, rfl, hm⟩ := int_at t1
  obtain ⟨u, rfl, hu⟩ := int_at t2
  exact ⟨A, c, l, m, u, rfl, h1, h2, h4, h3, hm, hu⟩
theorem intv_of {v : Value} {d : DataW H} {p : List MemPlace} {base : Nat} (hv : Value.okWide Tryd.prog w r b0 3 v) (h : DataW.Trod enc Tryd.prog w base spare held 3 v d p) :
    ∃ k : Int, v = .int .i64 k ∧ -9223372036854775808 ≤ k ∧ k ≤ 9223372036854775807 := by
  obtain ⟨k, e, _, _, hw⟩ := open_int Tryd.underlying3 hv h
  simp only [Lit.wf, Bool.and_eq_true, decide_eq_true_eq] at hw
  exact ⟨k, e, hw.1, hw.2⟩
theorem digest_of {v : Value} {d : DataW H} {p : List MemPlace} {base : Nat} (hv : Value.okWide Tryd.prog w r b0 24 v) (h : DataW.Trod enc Tryd.prog w base spare held 24 v d p) :
    ∃ l, v = dv l ∧ Dg l := by
  obtain ⟨cs, rfl, hsz⟩ : ∃ cs, v = .agg cs ∧ cs.size = 32 := by
    have hv' := hv
    simp only [Value.okWide, Tryd.underlying24] at hv'
    obtain ⟨cs, h1, h2, _⟩ := hv'
    exact ⟨cs, h1, h2.trans cellsDig⟩
  obtain ⟨fuel, hf⟩ := h
  obtain ⟨xs, m, _, _, hl, hxl, hel⟩ := DataW.trod_array Tryd.underlying24 hf
  have c1 : Tryd.prog.cellsOf 5 = 1 := by kernel_rfl
  obtain ⟨l, hll, hr⟩ := list_of (len := 32) (R := fun i (u : Int) => cs.toList[i]? = some (.int .u8 u) ∧ Byt u) fun i hi => by
    have hE := hel i hi
    rw [c1, Nat.mul_one, List.getElem?_eq_getElem (by omega)] at hE
    obtain ⟨k, e1, _, hw⟩ := DataW.trod_int Tryd.underlying5 hE
    simp only [Lit.wf, Bool.and_eq_true, decide_eq_true_eq] at hw
    have hk : (0 : Int) ≤ k ∧ k ≤ 255 := ⟨hw.1, hw.2⟩
    have h0 : ((cs.toList.drop i).take 1)[0]? = some (.int .u8 k) := by
      have e2 : (cs.toList.drop i).take 1 = [.int .u8 k] := e1
      rw [e2]; rfl
    refine ⟨k, ?_, hk.1, by omega⟩
    simpa using h0
  refine ⟨l, ?_, ⟨hll, fun x hx => ?_⟩⟩
  · have e : cs.toList = l.map (Value.int .u8) := by
      apply List.ext_getElem?
      intro i
      by_cases hi : i < 32
      · rw [(hr i l[i] (List.getElem?_eq_getElem (by omega))).1, List.getElem?_map, List.getElem?_eq_getElem (by omega)]
        rfl
      · rw [List.getElem?_eq_none (by simpa using (by omega : cs.size ≤ i)), List.getElem?_eq_none (by simp; omega)]
    show Value.agg cs = .agg (l.map (Value.int .u8)).toArray
    rw [← e]
  · obtain ⟨i, hi⟩ := List.getElem?_of_mem hx
    exact (hr i x hi).2
end
end Go.Proofs.YtceppmajbkmbdaaDoor
