/- How the arguments of the facts' laws are read: facts by value (82 cells), lists of them, games, numbers, bytes. How the arguments of the facts' laws are read: the components of a fact; a fact by value. How the arguments of the facts' laws are read: a fact by value; a number of 32 bits. What a row of the codec says of the package-level variables, as the contracts take it; a world for witnesses. -/
import Derived.Test.YtdmaopfaeigelaaGreatDoorCards
import Derived.Test.YtdmaopfaeigelaaGreatDoorTie
import Derived.Test.YtdmaopfaeigelaaGreatDoorFacFew
import Derived.Lib.SmallJoins
import Derived.SizedLaws
import Derived.OpenShut
import Derived.LaidSub
import Derived.MakeChecks
namespace Go.Proofs.YtdmaopfaeigelaaGreatDoor
set_option linter.unusedSimpArgs false
set_option linter.unusedVariables false
set_option maxRecDepth 100000
open Go.ChangeShapes Go.WideShapes Go.ChangeAt Go.RowKit Go.Joins

theorem own : ownKnob Tryz.prog.godebug = none := by kernel_rfl
theorem laidOut : laidOutB Tryz.prog = true := by kernel_rfl
theorem cellsInt : Tryz.prog.cellsOf 3 = 1 := by kernel_rfl
theorem cellsFact : Tryz.prog.cellsOf 45 = 82 := by kernel_rfl
theorem cellsEnt : Tryz.prog.cellsOf 24 = 4 := by kernel_rfl
theorem cellsInts : Tryz.prog.cellsOf 22 = 1 := by kernel_rfl
theorem cellsStr : Tryz.prog.cellsOf 9 = 1 := by kernel_rfl
section
variable {H : Type} {enc : TypeId × Value → H} {w : World} {b0 : Nat} {spare : Nat → Bool} {held : Bool} {r : Reach}
/-- these cells read as a value of the type -/
def Reads (enc : TypeId × Value → H) (w : World) (spare : Nat → Bool) (held : Bool) (n : Nat) (t : TypeId) (cs : List Value) : Prop := ∃ y, DataW.trod enc Tryz.prog w 0 spare held n t cs = some y
theorem struct_parts {t : TypeId} {fs : Array Field} {n : Nat} {cs : List Value} (ht : Tryz.prog.underlying t = some (.struct fs)) (h : Reads enc w spare held n t cs) :
    cs.length = Tryz.prog.cellsOf t ∧ ∃ m, ∀ (i : Nat) (f : Field), fs[i]? = some f → Reads enc w spare held m f.type ((cs.drop f.offset).take (Tryz.prog.cellsOf f.type)) := by
  obtain ⟨y, h⟩ := h
  obtain ⟨xs, m, rfl, rfl, hl, hlen, hf⟩ := DataW.trod_struct ht h
  refine ⟨hl, m, fun i f hi => ?_⟩
  have h1 := hf i f hi
  have hlt : i < xs.length := by
    rw [hlen]
    exact (Array.getElem?_eq_some_iff.1 hi).1
  rw [List.getElem?_eq_getElem hlt] at h1
  exact ⟨_, h1⟩
theorem int_at {n : Nat} {cs : List Value} (h : Reads enc w spare held n 3 cs) : ∃ k : Int, cs = [.int .i64 k] ∧ I64 k := by
  obtain ⟨y, h⟩ := h
  obtain ⟨k, e, _, hw⟩ := DataW.trod_int Tryz.underlying3 h
  simp only [Lit.wf, Bool.and_eq_true, decide_eq_true_eq] at hw
  exact ⟨k, e, ⟨hw.1, hw.2⟩⟩
theorem str_at {n : Nat} {cs : List Value} (h : Reads enc w spare held n 9 cs) : ∃ s : ByteArray, cs = [.string s] := by
  obtain ⟨y, h⟩ := h
  obtain ⟨s, e, rfl, hw⟩ := DataW.trod_string Tryz.underlying9 h
  exact ⟨s, e⟩
theorem bool_at {n : Nat} {cs : List Value} (h : Reads enc w spare held n 4 cs) : ∃ s : Bool, cs = [.bool s] := by
  obtain ⟨y, h⟩ := h
  obtain ⟨s, e, rfl⟩ := DataW.trod_bool Tryz.underlying4 h
  exact ⟨s, e⟩
theorem slice_parts {t e : TypeId} {n : Nat} {cs : List Value} (ht : Tryz.prog.underlying t = some (.slice e)) (h : Reads enc w spare held n t cs) :
    cs = [.slice none 0 0] ∨ ∃ (a : Addr) (len cap m : Nat), cs = [.slice (some a) len cap] ∧ len ≤ cap ∧ ∀ i, i < len → ∃ ds, w.cells? 0 (a.add (i * Tryz.prog.cellsOf e)) (Tryz.prog.cellsOf e) = some ds ∧ Reads enc w spare held m e ds := by
  obtain ⟨y, h⟩ := h
  rcases DataW.trod_slice ht h with ⟨hcs, rfl⟩ | ⟨a, len, cap, elems, rest, m, rfl, hcs, rfl, _, hl, hm, hel, hrow, _, _⟩
  · exact .inl hcs
  · refine .inr ⟨a, len, cap, m, hcs, hl, fun i hi => ?_⟩
    have h1 := hrow i hi
    rw [List.getElem?_eq_getElem (by omega)] at h1
    obtain ⟨ds, h2, h3⟩ := Option.bind_eq_some_iff.1 h1
    exact ⟨ds, h2, _, h3⟩
theorem cells_at {a : Addr} {n : Nat} {cs : List Value} (h : w.cells? 0 a n = some cs) : cs.length = n ∧ ∀ j, j < n → w.cell? (a.add j) = cs[j]? := by
  unfold World.cells? at h
  rw [if_pos (Nat.zero_le _)] at h
  exact ⟨by simpa using mapM_some_length h, fun j hj => mapM_some_get h j j (by simp [hj])⟩
/-- a list of what each index has -/
theorem list_of {α : Type} {len : Nat} {R : Nat → α → Prop} (h : ∀ i, i < len → ∃ x, R i x) : ∃ l : List α, l.length = len ∧ ∀ i x, l[i]? = some x → R i x := by
  induction len with
  | zero => exact ⟨[], rfl, fun i x hx => by simp at hx⟩
  | succ n ih =>
    obtain ⟨l, hl, hr⟩ := ih fun i hi => h i (by omega)
    obtain ⟨x, hx⟩ := h n (by omega)
    refine ⟨l ++ [x], by simp [hl], fun i y hy => ?_⟩
    by_cases hi : i < n
    · rw [List.getElem?_append_left (by omega)] at hy
      exact hr i y hy
    · have hi2 := (List.getElem?_eq_some_iff.1 hy).1
      simp at hi2
      obtain rfl : i = n := by omega
      rw [List.getElem?_append_right (by omega)] at hy
      simp [hl] at hy
      subst hy
      exact hx
theorem add0 (a : Addr) : a.add 0 = a := by unfold Addr.add; rw [if_pos rfl]
theorem ints_at {n : Nat} {cs : List Value} (h : Reads enc w spare held n 22 cs) : ∃ (A : Option Addr) (l : List Int) (k : Nat), cs = [.slice A l.length k] ∧ It w A l ∧ l.length ≤ k ∧ (A = none → k = 0) := by
  rcases slice_parts Tryz.underlying22 h with rfl | ⟨a, len, cap, m, rfl, hlc, hrow⟩
  · exact ⟨none, [], 0, rfl, It.nil, Nat.le_refl _, fun _ => rfl⟩
  · rw [cellsInt] at hrow
    obtain ⟨l, hl, hr⟩ := list_of (len := len) (R := fun i x => w.cell? (a.add (i * 1)) = some (.int .i64 x)) fun i hi => by
      obtain ⟨ds, h1, h2⟩ := hrow i hi
      obtain ⟨k, rfl, _⟩ := int_at h2
      have := (cells_at h1).2 0 (by decide)
      rw [add0] at this
      exact ⟨k, this⟩
    refine ⟨some a, l, cap, by rw [hl], ⟨fun hne => ?_⟩, by omega, fun e => by cases e⟩
    have h0 := hr 0 _ (List.getElem?_eq_getElem (List.length_pos_iff.2 hne))
    have hs := World.cell?_spot h0
    obtain ⟨b, o, sp⟩ := a
    unfold Addr.add at hs
    simp only [Nat.zero_mul, if_true] at hs
    subst hs
    refine ⟨b, o, rfl, fun j hj => ?_⟩
    have := hr j _ (List.getElem?_eq_getElem hj)
    rw [add_plain, Nat.mul_one] at this
    rw [this, List.getD_eq_getElem?_getD, List.getElem?_eq_getElem hj]
    rfl
theorem cellsBool : Tryz.prog.cellsOf 4 = 1 := by kernel_rfl
theorem cellsCards : Tryz.prog.cellsOf 29 = 1 := by kernel_rfl
theorem cellsCard : Tryz.prog.cellsOf 139 = 2 := by kernel_rfl
theorem cellsGame : Tryz.prog.cellsOf 26 = 4 := by kernel_rfl
theorem cellsFix : Tryz.prog.cellsOf 28 = 5 := by kernel_rfl
theorem cellsSheet : Tryz.prog.cellsOf 31 = 13 := by kernel_rfl
theorem cellsRul : Tryz.prog.cellsOf 35 = 17 := by kernel_rfl
theorem cellsApp : Tryz.prog.cellsOf 37 = 3 := by kernel_rfl
theorem cellsMove : Tryz.prog.cellsOf 39 = 2 := by kernel_rfl
theorem cellsLot : Tryz.prog.cellsOf 41 = 3 := by kernel_rfl
theorem cellsDig : Tryz.prog.cellsOf 43 = 32 := by kernel_rfl
theorem two_at {cs : List Value} (h : cs.length = 2) : ∃ a b, cs = [a, b] := by
  match cs, h with
  | [a, b], _ => exact ⟨a, b, rfl⟩
theorem card_at {n : Nat} {cs : List Value} (h : Reads enc w spare held n 139 cs) : ∃ x : Cd, cs = [.int .i64 x.p, .bool x.red] := by
  obtain ⟨hl, m, hf⟩ := struct_parts Tryz.underlying139 h
  rw [cellsCard] at hl
  obtain ⟨a, b, rfl⟩ := two_at hl
  have t0 := hf 0 _ rfl
  have t1 := hf 1 _ rfl
  simp [cellsInt, cellsBool] at t0 t1
  obtain ⟨k, e1, _⟩ := int_at t0
  obtain ⟨s, e2⟩ := bool_at t1
  simp only [List.cons.injEq, and_true] at e1 e2
  exact ⟨⟨k, s⟩, by rw [e1, e2]⟩
theorem cards_at {n : Nat} {cs : List Value} (h : Reads enc w spare held n 29 cs) : ∃ (A : Option Addr) (l : List Cd) (k : Nat), cs = [.slice A l.length k] ∧ Ct w A l ∧ l.length ≤ k ∧ (A = none → k = 0) := by
  rcases slice_parts Tryz.underlying29 h with rfl | ⟨a, len, cap, m, rfl, hlc, hrow⟩
  · exact ⟨none, [], 0, rfl, Ct.nil, Nat.le_refl _, fun _ => rfl⟩
  · rw [cellsCard] at hrow
    obtain ⟨l, hl, hr⟩ := list_of (len := len) (R := fun i (x : Cd) => w.cell? (a.add (i * 2)) = some (.int .i64 x.p) ∧ w.cell? ((a.add (i * 2)).add 1) = some (.bool x.red)) fun i hi => by
      obtain ⟨ds, h1, h2⟩ := hrow i hi
      obtain ⟨x, rfl⟩ := card_at h2
      have c0 := (cells_at h1).2 0 (by decide)
      have c1 := (cells_at h1).2 1 (by decide)
      rw [add0] at c0
      exact ⟨x, c0, c1⟩
    refine ⟨some a, l, cap, by rw [hl], ⟨fun hne => ?_⟩, by omega, fun e => by cases e⟩
    have h0 := (hr 0 _ (List.getElem?_eq_getElem (List.length_pos_iff.2 hne))).1
    have hs := World.cell?_spot h0
    obtain ⟨b, o, sp⟩ := a
    unfold Addr.add at hs
    simp only [Nat.zero_mul, if_true] at hs
    subst hs
    refine ⟨b, o, rfl, fun j x hj => ?_⟩
    have := hr j x hj
    rw [add_plain, add_plain] at this
    exact this
end
end Go.Proofs.YtdmaopfaeigelaaGreatDoor
namespace Go.Proofs.YtdmaopfaeigelaaGreatDoor
set_option linter.unusedSimpArgs false
set_option linter.unusedVariables false
set_option maxRecDepth 100000
open Go.ChangeShapes Go.WideShapes Go.ChangeAt Go.RowKit Go.Joins

section
variable {H : Type} {enc : TypeId × Value → H} {w : World} {b0 : Nat} {spare : Nat → Bool} {held : Bool} {r : Reach}
theorem list_3 {cs : List Value} (h : cs.length = 3) : ∃ c0 c1 c2, cs = [c0, c1, c2] := by
  match cs, h with
  | [c0, c1, c2], _ => exact ⟨c0, c1, c2, rfl⟩
theorem list_4 {cs : List Value} (h : cs.length = 4) : ∃ c0 c1 c2 c3, cs = [c0, c1, c2, c3] := by
  match cs, h with
  | [c0, c1, c2, c3], _ => exact ⟨c0, c1, c2, c3, rfl⟩
theorem list_5 {cs : List Value} (h : cs.length = 5) : ∃ c0 c1 c2 c3 c4, cs = [c0, c1, c2, c3, c4] := by
  match cs, h with
  | [c0, c1, c2, c3, c4], _ => exact ⟨c0, c1, c2, c3, c4, rfl⟩
theorem list_13 {cs : List Value} (h : cs.length = 13) : ∃ c0 c1 c2 c3 c4 c5 c6 c7 c8 c9 c10 c11 c12, cs = [c0, c1, c2, c3, c4, c5, c6, c7, c8, c9, c10, c11, c12] := by
  match cs, h with
  | [c0, c1, c2, c3, c4, c5, c6, c7, c8, c9, c10, c11, c12], _ => exact ⟨c0, c1, c2, c3, c4, c5, c6, c7, c8, c9, c10, c11, c12, rfl⟩
theorem list_17 {cs : List Value} (h : cs.length = 17) : ∃ c0 c1 c2 c3 c4 c5 c6 c7 c8 c9 c10 c11 c12 c13 c14 c15 c16, cs = [c0, c1, c2, c3, c4, c5, c6, c7, c8, c9, c10, c11, c12, c13, c14, c15, c16] := by
  match cs, h with
  | [c0, c1, c2, c3, c4, c5, c6, c7, c8, c9, c10, c11, c12, c13, c14, c15, c16], _ => exact ⟨c0, c1, c2, c3, c4, c5, c6, c7, c8, c9, c10, c11, c12, c13, c14, c15, c16, rfl⟩
theorem cellsInv : Tryz.prog.cellsOf 33 = 2 := by kernel_rfl
theorem gameC_at {n : Nat} {cs : List Value} (h : Reads enc w spare held n 26 cs) : ∃ g : Gm, cs = gC g := by
  obtain ⟨hl, m, hf⟩ := struct_parts Tryz.underlying26 h
  rw [cellsGame] at hl
  obtain ⟨c0, c1, c2, c3, rfl⟩ := list_4 hl
  have t0 := hf 0 _ rfl
  have t1 := hf 1 _ rfl
  have t2 := hf 2 _ rfl
  have t3 := hf 3 _ rfl
  simp [cellsInt, cellsBool, cellsStr, cellsInts, cellsCards, cellsCard, cellsGame, cellsInv] at t0 t1 t2 t3
  obtain ⟨s, e0, hs⟩ := int_at t0
  obtain ⟨c, e1, hc⟩ := int_at t1
  obtain ⟨h1, e2, hh1⟩ := int_at t2
  obtain ⟨a, e3, ha⟩ := int_at t3
  simp only [gC, List.cons.injEq, and_true] at e0 e1 e2 e3
  exact ⟨⟨s, c, h1, a⟩, by rw [e0, e1, e2, e3]; rfl⟩
theorem invC_at {n : Nat} {cs : List Value} (h : Reads enc w spare held n 33 cs) : ∃ p q : Int, cs = [.int .i64 p, .int .i64 q] := by
  obtain ⟨hl, m, hf⟩ := struct_parts Tryz.underlying33 h
  rw [cellsInv] at hl
  obtain ⟨c0, c1, rfl⟩ := two_at hl
  have t0 := hf 0 _ rfl
  have t1 := hf 1 _ rfl
  simp [cellsInt, cellsBool, cellsStr, cellsInts, cellsCards, cellsCard, cellsGame, cellsInv] at t0 t1
  obtain ⟨p, e0, hp⟩ := int_at t0
  obtain ⟨q, e1, hq⟩ := int_at t1
  simp only [gC, List.cons.injEq, and_true] at e0 e1
  exact ⟨p, q, by rw [e0, e1]⟩
theorem entC_at {n : Nat} {cs : List Value} (h : Reads enc w spare held n 24 cs) : ∃ (e : En) (A : Option Addr) (k : Nat), cs = eC e A k ∧ It w A e.clubs ∧ e.clubs.length ≤ k ∧ (A = none → k = 0) := by
  obtain ⟨hl, m, hf⟩ := struct_parts Tryz.underlying24 h
  rw [cellsEnt] at hl
  obtain ⟨c0, c1, c2, c3, rfl⟩ := list_4 hl
  have t0 := hf 0 _ rfl
  have t1 := hf 1 _ rfl
  have t2 := hf 2 _ rfl
  have t3 := hf 3 _ rfl
  simp [cellsInt, cellsBool, cellsStr, cellsInts, cellsCards, cellsCard, cellsGame, cellsInv] at t0 t1 t2 t3
  obtain ⟨s, e0, hs⟩ := int_at t0
  obtain ⟨c, e1, hc⟩ := int_at t1
  obtain ⟨Al, l, kl, e2, pl, ql, zl⟩ := ints_at t2
  obtain ⟨u, e3⟩ := str_at t3
  simp only [gC, List.cons.injEq, and_true] at e0 e1 e2 e3
  exact ⟨⟨s, c, l, u⟩, Al, kl, by rw [e0, e1, e2, e3]; rfl, pl, ql, zl⟩
theorem fixC_at {n : Nat} {cs : List Value} (h : Reads enc w spare held n 28 cs) : ∃ (g : Gm) (v : Int), cs = xC g v := by
  obtain ⟨hl, m, hf⟩ := struct_parts Tryz.underlying28 h
  rw [cellsFix] at hl
  obtain ⟨c0, c1, c2, c3, c4, rfl⟩ := list_5 hl
  have t0 := hf 0 _ rfl
  have t1 := hf 1 _ rfl
  simp [cellsInt, cellsBool, cellsStr, cellsInts, cellsCards, cellsCard, cellsGame, cellsInv] at t0 t1
  obtain ⟨g, e0⟩ := gameC_at t0
  obtain ⟨v, e1, hv⟩ := int_at t1
  simp only [gC, List.cons.injEq, and_true] at e0 e1
  exact ⟨g, v, by obtain ⟨x0, x1, x2, x3⟩ := e0; rw [x0, x1, x2, x3, e1]; rfl⟩
theorem shC_at {n : Nat} {cs : List Value} (h : Reads enc w spare held n 31 cs) : ∃ (s : Sh) (a : Ad), cs = sC s a ∧ (It w a.hs s.hs ∧ s.hs.length ≤ a.nhs ∧ (a.hs = none → a.nhs = 0)) ∧ (It w a.as_ s.as_ ∧ s.as_.length ≤ a.nas ∧ (a.as_ = none → a.nas = 0)) ∧ (Ct w a.hc s.hc ∧ s.hc.length ≤ a.nhc ∧ (a.hc = none → a.nhc = 0)) ∧ (Ct w a.ac s.ac ∧ s.ac.length ≤ a.nac ∧ (a.ac = none → a.nac = 0)) := by
  obtain ⟨hl, m, hf⟩ := struct_parts Tryz.underlying31 h
  rw [cellsSheet] at hl
  obtain ⟨c0, c1, c2, c3, c4, c5, c6, c7, c8, c9, c10, c11, c12, rfl⟩ := list_13 hl
  have t0 := hf 0 _ rfl
  have t1 := hf 1 _ rfl
  have t2 := hf 2 _ rfl
  have t3 := hf 3 _ rfl
  have t4 := hf 4 _ rfl
  have t5 := hf 5 _ rfl
  have t6 := hf 6 _ rfl
  have t7 := hf 7 _ rfl
  have t8 := hf 8 _ rfl
  have t9 := hf 9 _ rfl
  simp [cellsInt, cellsBool, cellsStr, cellsInts, cellsCards, cellsCard, cellsGame, cellsInv] at t0 t1 t2 t3 t4 t5 t6 t7 t8 t9
  obtain ⟨g, e0⟩ := gameC_at t0
  obtain ⟨rf, e1, hrf⟩ := int_at t1
  obtain ⟨hg, e2, hhg⟩ := int_at t2
  obtain ⟨ag, e3, hag⟩ := int_at t3
  obtain ⟨hp, e4, hhp⟩ := int_at t4
  obtain ⟨ap, e5, hap⟩ := int_at t5
  obtain ⟨Al1, l1, kl1, e6, pl1, ql1, zl1⟩ := ints_at t6
  obtain ⟨Al2, l2, kl2, e7, pl2, ql2, zl2⟩ := ints_at t7
  obtain ⟨Al3, l3, kl3, e8, pl3, ql3, zl3⟩ := cards_at t8
  obtain ⟨Al4, l4, kl4, e9, pl4, ql4, zl4⟩ := cards_at t9
  simp only [gC, List.cons.injEq, and_true] at e0 e1 e2 e3 e4 e5 e6 e7 e8 e9
  exact ⟨⟨g, rf, hg, ag, hp, ap, l1, l2, l3, l4⟩, { a0 with hs := Al1, nhs := kl1, as_ := Al2, nas := kl2, hc := Al3, nhc := kl3, ac := Al4, nac := kl4 }, by obtain ⟨x0, x1, x2, x3⟩ := e0; rw [x0, x1, x2, x3, e1, e2, e3, e4, e5, e6, e7, e8, e9]; rfl, ⟨pl1, ql1, zl1⟩, ⟨pl2, ql2, zl2⟩, ⟨pl3, ql3, zl3⟩, ⟨pl4, ql4, zl4⟩⟩
theorem ruC_at {n : Nat} {cs : List Value} (h : Reads enc w spare held n 35 cs) : ∃ x : Ru, cs = rC x ∧ I64 x.kind := by
  obtain ⟨hl, m, hf⟩ := struct_parts Tryz.underlying35 h
  rw [cellsRul] at hl
  obtain ⟨c0, c1, c2, c3, c4, c5, c6, c7, c8, c9, c10, c11, c12, c13, c14, c15, c16, rfl⟩ := list_17 hl
  have t0 := hf 0 _ rfl
  have t1 := hf 1 _ rfl
  have t2 := hf 2 _ rfl
  have t3 := hf 3 _ rfl
  have t4 := hf 4 _ rfl
  have t5 := hf 5 _ rfl
  have t6 := hf 6 _ rfl
  have t7 := hf 7 _ rfl
  have t8 := hf 8 _ rfl
  have t9 := hf 9 _ rfl
  have t10 := hf 10 _ rfl
  have t11 := hf 11 _ rfl
  have t12 := hf 12 _ rfl
  simp [cellsInt, cellsBool, cellsStr, cellsInts, cellsCards, cellsCard, cellsGame, cellsInv] at t0 t1 t2 t3 t4 t5 t6 t7 t8 t9 t10 t11 t12
  obtain ⟨u0, e0, hu0⟩ := int_at t0
  obtain ⟨u1, e1, hu1⟩ := int_at t1
  obtain ⟨u2, e2, hu2⟩ := int_at t2
  obtain ⟨g, e3⟩ := gameC_at t3
  obtain ⟨u4, e4, hu4⟩ := int_at t4
  obtain ⟨u5, e5, hu5⟩ := int_at t5
  obtain ⟨u6, e6, hu6⟩ := int_at t6
  obtain ⟨u7, e7, hu7⟩ := int_at t7
  obtain ⟨u8, e8, hu8⟩ := int_at t8
  obtain ⟨u9, e9, hu9⟩ := int_at t9
  obtain ⟨u10, e10, hu10⟩ := int_at t10
  obtain ⟨u11, e11, hu11⟩ := int_at t11
  obtain ⟨v, v', e12⟩ := invC_at t12
  simp only [gC, List.cons.injEq, and_true] at e0 e1 e2 e3 e4 e5 e6 e7 e8 e9 e10 e11 e12
  exact ⟨⟨u0, u1, u2, g, u4, u5, u6, u7, u8, u9, u10, u11, v, v'⟩, by obtain ⟨x0, x1, x2, x3⟩ := e3; obtain ⟨y0, y1⟩ := e12; rw [e0, e1, e2, x0, x1, x2, x3, e4, e5, e6, e7, e8, e9, e10, e11, y0, y1]; rfl, hu2⟩
theorem apC_at {n : Nat} {cs : List Value} (h : Reads enc w spare held n 37 cs) : ∃ (p q : Int) (u : Bool), cs = [.int .i64 p, .int .i64 q, .bool u] := by
  obtain ⟨hl, m, hf⟩ := struct_parts Tryz.underlying37 h
  rw [cellsApp] at hl
  obtain ⟨c0, c1, c2, rfl⟩ := list_3 hl
  have t0 := hf 0 _ rfl
  have t1 := hf 1 _ rfl
  have t2 := hf 2 _ rfl
  simp [cellsInt, cellsBool, cellsStr, cellsInts, cellsCards, cellsCard, cellsGame, cellsInv] at t0 t1 t2
  obtain ⟨p, e0, hp⟩ := int_at t0
  obtain ⟨q, e1, hq⟩ := int_at t1
  obtain ⟨u, e2⟩ := bool_at t2
  simp only [gC, List.cons.injEq, and_true] at e0 e1 e2
  exact ⟨p, q, u, by rw [e0, e1, e2]⟩
theorem mvC_at {n : Nat} {cs : List Value} (h : Reads enc w spare held n 39 cs) : ∃ p q : Int, cs = [.int .i64 p, .int .i64 q] := by
  obtain ⟨hl, m, hf⟩ := struct_parts Tryz.underlying39 h
  rw [cellsMove] at hl
  obtain ⟨c0, c1, rfl⟩ := two_at hl
  have t0 := hf 0 _ rfl
  have t1 := hf 1 _ rfl
  simp [cellsInt, cellsBool, cellsStr, cellsInts, cellsCards, cellsCard, cellsGame, cellsInv] at t0 t1
  obtain ⟨p, e0, hp⟩ := int_at t0
  obtain ⟨q, e1, hq⟩ := int_at t1
  simp only [gC, List.cons.injEq, and_true] at e0 e1
  exact ⟨p, q, by rw [e0, e1]⟩
theorem ltC_at {n : Nat} {cs : List Value} (h : Reads enc w spare held n 41 cs) : ∃ (s c : Int) (l : List Int) (A : Option Addr) (k : Nat), cs = lC s c l A k ∧ It w A l ∧ l.length ≤ k ∧ (A = none → k = 0) := by
  obtain ⟨hl, m, hf⟩ := struct_parts Tryz.underlying41 h
  rw [cellsLot] at hl
  obtain ⟨c0, c1, c2, rfl⟩ := list_3 hl
  have t0 := hf 0 _ rfl
  have t1 := hf 1 _ rfl
  have t2 := hf 2 _ rfl
  simp [cellsInt, cellsBool, cellsStr, cellsInts, cellsCards, cellsCard, cellsGame, cellsInv] at t0 t1 t2
  obtain ⟨s, e0, hs⟩ := int_at t0
  obtain ⟨c, e1, hc⟩ := int_at t1
  obtain ⟨Al, l, kl, e2, pl, ql, zl⟩ := ints_at t2
  simp only [gC, List.cons.injEq, and_true] at e0 e1 e2
  exact ⟨s, c, l, Al, kl, by rw [e0, e1, e2]; rfl, pl, ql, zl⟩
end
end Go.Proofs.YtdmaopfaeigelaaGreatDoor
namespace Go.Proofs.YtdmaopfaeigelaaGreatDoor
set_option linter.unusedSimpArgs false
set_option linter.unusedVariables false
set_option maxRecDepth 100000
open Go.ChangeShapes Go.WideShapes Go.ChangeAt Go.RowKit Go.Joins

section
variable {H : Type} {enc : TypeId × Value → H} {w : World} {b0 : Nat} {spare : Nat → Bool} {held : Bool} {r : Reach}
theorem cellsByte : Tryz.prog.cellsOf 5 = 1 := by kernel_rfl
theorem dig_at {n : Nat} {cs : List Value} (h : Reads enc w spare held n 43 cs) : ∃ v : List Int, cs = v.map (Value.int .u8) ∧ v.length = 32 ∧ ∀ x ∈ v, 0 ≤ x ∧ x ≤ 255 := by
  obtain ⟨y, h⟩ := h
  obtain ⟨xs, m, rfl, rfl, hl, hlen, hf⟩ := DataW.trod_array Tryz.underlying43 h
  rw [cellsDig] at hl
  rw [cellsByte] at hf
  obtain ⟨v, hv, hr⟩ := list_of (len := 32) (R := fun i k => cs[i]? = some (.int .u8 k) ∧ 0 ≤ k ∧ k ≤ 255) fun i hi => by
    have h1 := hf i hi
    rw [List.getElem?_eq_getElem (by omega)] at h1
    obtain ⟨k, e, _, hw⟩ := DataW.trod_int Tryz.underlying5 h1
    simp only [Lit.wf, Bool.and_eq_true, decide_eq_true_eq] at hw
    refine ⟨k, ?_, hw.1, hw.2⟩
    have h2 : ((cs.drop (i * 1)).take 1)[0]? = some (.int .u8 k) := by rw [e]; rfl
    rw [List.getElem?_take, if_pos (by decide), List.getElem?_drop, Nat.mul_one, Nat.add_zero] at h2
    exact h2
  refine ⟨v, ?_, hv, fun x hx => ?_⟩
  rotate_left
  · obtain ⟨i, hi⟩ := List.getElem?_of_mem hx
    exact (hr i x hi).2
  apply List.ext_getElem?
  intro i
  by_cases hi : i < 32
  · rw [List.getElem?_map, List.getElem?_eq_getElem (by omega : i < v.length)]
    exact (hr i _ (List.getElem?_eq_getElem (by omega))).1
  · rw [List.getElem?_eq_none (by omega), List.getElem?_eq_none (by simp; omega)]
theorem cut_at (cs : List Value) (a n : Nat) : cs.drop a = (cs.drop a).take n ++ cs.drop (a + n) := by
  rw [← List.drop_drop, List.take_append_drop]
theorem fact_at {n : Nat} {cs : List Value} (h : Reads enc w spare held n 45 cs) : ∃ f a, cs = fC f a ∧ FArg w f a := by
  obtain ⟨hl, m, hf⟩ := struct_parts Tryz.underlying45 h
  rw [cellsFact] at hl
  have t0 : Reads enc w spare held m 3 ((cs.drop 0).take 1) := by have := hf 0 _ rfl; simpa [cellsInt] using this
  have t1 : Reads enc w spare held m 3 ((cs.drop 1).take 1) := by have := hf 1 _ rfl; simpa [cellsInt] using this
  have t2 : Reads enc w spare held m 3 ((cs.drop 2).take 1) := by have := hf 2 _ rfl; simpa [cellsInt] using this
  have t3 : Reads enc w spare held m 24 ((cs.drop 3).take 4) := by have := hf 3 _ rfl; simpa [cellsEnt] using this
  have t4 : Reads enc w spare held m 28 ((cs.drop 7).take 5) := by have := hf 4 _ rfl; simpa [cellsFix] using this
  have t5 : Reads enc w spare held m 31 ((cs.drop 12).take 13) := by have := hf 5 _ rfl; simpa [cellsSheet] using this
  have t6 : Reads enc w spare held m 35 ((cs.drop 25).take 17) := by have := hf 6 _ rfl; simpa [cellsRul] using this
  have t7 : Reads enc w spare held m 37 ((cs.drop 42).take 3) := by have := hf 7 _ rfl; simpa [cellsApp] using this
  have t8 : Reads enc w spare held m 39 ((cs.drop 45).take 2) := by have := hf 8 _ rfl; simpa [cellsMove] using this
  have t9 : Reads enc w spare held m 41 ((cs.drop 47).take 3) := by have := hf 9 _ rfl; simpa [cellsLot] using this
  have t10 : Reads enc w spare held m 43 ((cs.drop 50).take 32) := by have := hf 10 _ rfl; simpa [cellsDig] using this
  obtain ⟨kd, e0, hkd⟩ := int_at t0
  obtain ⟨dy, e1, _⟩ := int_at t1
  obtain ⟨kn, e2, _⟩ := int_at t2
  obtain ⟨e, A1, k1, e3, p1, q1, z1⟩ := entC_at t3
  obtain ⟨xg, vn, e4⟩ := fixC_at t4
  obtain ⟨sh, sa, e5, hs1, hs2, hs3, hs4⟩ := shC_at t5
  obtain ⟨ru, e6, hrk⟩ := ruC_at t6
  obtain ⟨ac, ai, su, e7⟩ := apC_at t7
  obtain ⟨mp, mt, e8⟩ := mvC_at t8
  obtain ⟨ls, lc, od, A9, k9, e9, p9, q9, z9⟩ := ltC_at t9
  obtain ⟨vd, e10, hvd, hvb⟩ := dig_at t10
  have hcs : cs = (cs.drop 0).take 1 ++ ((cs.drop 1).take 1 ++ ((cs.drop 2).take 1 ++ ((cs.drop 3).take 4 ++ ((cs.drop 7).take 5 ++ ((cs.drop 12).take 13 ++ ((cs.drop 25).take 17 ++ ((cs.drop 42).take 3 ++ ((cs.drop 45).take 2 ++ ((cs.drop 47).take 3 ++ (cs.drop 50).take 32))))))))) := by
    have l50 : (cs.drop 50).take 32 = cs.drop 50 := List.take_of_length_le (by rw [List.length_drop]; omega)
    rw [l50, ← cut_at cs 47 3, ← cut_at cs 45 2, ← cut_at cs 42 3, ← cut_at cs 25 17, ← cut_at cs 12 13, ← cut_at cs 7 5, ← cut_at cs 3 4, ← cut_at cs 2 1, ← cut_at cs 1 1, ← cut_at cs 0 1]
    rfl
  rw [e0, e1, e2, e3, e4, e5, e6, e7, e8, e9, e10] at hcs
  refine ⟨⟨kd, dy, kn, e, xg, vn, sh, ru, ac, ai, su, mp, mt, ls, lc, od, vd⟩, { sa with cl := A1, ncl := k1, od := A9, nod := k9 }, hcs.trans rfl, ⟨fun hs => ?_, hvd, ⟨?_, ?_⟩, hvb⟩⟩
  · unfold smallF at hs
    simp only [Bool.and_eq_true, decide_eq_true_eq] at hs
    obtain ⟨⟨⟨⟨⟨⟨s0, s1⟩, s2⟩, s3⟩, s4⟩, s5⟩, s6⟩ := hs
    have r0 : e.clubs.length ≤ 1000 := by have : (e.clubs.length : Int) ≤ 60 := s0; omega
    have r2 : sh.hs.length ≤ 1000 := by have : (sh.hs.length : Int) ≤ 60 := s2; omega
    have r3 : sh.as_.length ≤ 1000 := by have : (sh.as_.length : Int) ≤ 60 := s3; omega
    have r4 : sh.hc.length ≤ 1000 := by have : (sh.hc.length : Int) ≤ 60 := s4; omega
    have r5 : sh.ac.length ≤ 1000 := by have : (sh.ac.length : Int) ≤ 60 := s5; omega
    have r6 : od.length ≤ 1000 := by have : (od.length : Int) ≤ 60 := s6; omega
    exact ⟨⟨p1, q1, z1, r0⟩, ⟨hs1.1, hs1.2.1, hs1.2.2, r2⟩, ⟨hs2.1, hs2.2.1, hs2.2.2, r3⟩, ⟨hs3.1, hs3.2.1, hs3.2.2, r4⟩, ⟨hs4.1, hs4.2.1, hs4.2.2, r5⟩, ⟨p9, q9, z9, r6⟩, hvd⟩
  · simp only [Lit.wf, Bool.and_eq_true, decide_eq_true_eq]
    exact hkd
  · simp only [Lit.wf, Bool.and_eq_true, decide_eq_true_eq]
    exact hrk
theorem fact_of {v : Value} {d : DataW H} {p : List MemPlace} (hv : Value.okWide Tryz.prog w r b0 45 v) (h : DataW.Trod enc Tryz.prog w 0 spare held 45 v d p) :
    ∃ f a, v = .agg (fC f a).toArray ∧ FArg w f a := by
  obtain ⟨cs, rfl, hsz⟩ := okWide_struct Tryz.underlying45 hv
  obtain ⟨fuel, hf⟩ := h
  obtain ⟨f, a, e, ha⟩ := fact_at ⟨_, hf⟩
  have e' : cs.toList = fC f a := by simpa [Value.cells] using e
  exact ⟨f, a, by rw [← e'], ha⟩
theorem u32_of {v : Value} {d : DataW H} {p : List MemPlace} (hv : Value.okWide Tryz.prog w r b0 76 v) (h : DataW.Trod enc Tryz.prog w 0 spare held 76 v d p) : ∃ k : Int, v = .int .u32 k ∧ 0 ≤ k ∧ k ≤ 4294967295 := by
  obtain ⟨k, e, _, _, hw⟩ := open_int Tryz.underlying76 hv h
  simp only [Lit.wf, Bool.and_eq_true, decide_eq_true_eq] at hw
  exact ⟨k, e, hw.1, hw.2⟩
end
end Go.Proofs.YtdmaopfaeigelaaGreatDoor
namespace Go.Proofs.YtdmaopfaeigelaaGreatDoor
set_option linter.unusedSimpArgs false
set_option linter.unusedVariables false
set_option maxRecDepth 100000
open Go.ChangeShapes Go.WideShapes Go.ChangeAt Go.RowKit Go.Joins

abbrev laidAll : List (String × DataW Unit) := [("math/bits.deBruijn32tab", Rows.laid_math_bits_deBruijn32tab), ("math/bits.deBruijn64tab", Rows.laid_math_bits_deBruijn64tab), ("internal/strconv.uint64pow10", Rows.laid_internal_strconv_uint64pow10), ("strconv.ErrRange", Rows.laid_strconv_ErrRange), ("strconv.ErrSyntax", Rows.laid_strconv_ErrSyntax)]
theorem gPow : Tryz.prog.globalNamed "internal/strconv.uint64pow10" = some 6 := by kernel_rfl
theorem gPowType : (Tryz.prog.globals[6]?).map (·.type) = some 264 := by kernel_rfl
theorem cellsPow : Tryz.prog.cellsOf 264 = 20 := by kernel_rfl
theorem cellsU64 : Tryz.prog.cellsOf 145 = 1 := by kernel_rfl
theorem gSyn : Tryz.prog.globalNamed "strconv.ErrSyntax" = some 4 := by kernel_rfl
theorem gSynType : (Tryz.prog.globals[4]?).map (·.type) = some 213 := by kernel_rfl
theorem gRan : Tryz.prog.globalNamed "strconv.ErrRange" = some 5 := by kernel_rfl
theorem gRanType : (Tryz.prog.globals[5]?).map (·.type) = some 213 := by kernel_rfl
theorem gBru : Tryz.prog.globalNamed "math/bits.deBruijn64tab" = some 8 := by kernel_rfl

theorem iface_cell {w : World} {t : TypeId} {ms : Array (String × TypeId)} (ht : Tryz.prog.underlying t = some (.interface ms)) {fuel : Nat} {cs : List Value} {name : String} {d : DataW Unit} {p : List MemPlace}
    (h : DataW.trod (fun _ => ()) Tryz.prog w 0 (fun _ => true) false fuel t cs = some (.iface name d, p)) : ∃ u v, cs = [.iface u v] := by
  cases fuel with
  | zero => simp [DataW.trod] at h
  | succ fuel =>
    unfold DataW.trod at h
    rw [ht] at h
    split at h <;> simp_all
theorem env_of {W : World} (h : laidMetH Tryz.prog laidAll W) : Env W ∧ gTop ≤ W.heap.size := by
  rw [Go.MakeChecks.laidMetH_plain _ _ _ (by kernel_rfl)] at h
  have hp := h.filter fun x => x.1 == "internal/strconv.uint64pow10"
  have hs := h.filter fun x => x.1 == "strconv.ErrSyntax"
  have hr := h.filter fun x => x.1 == "strconv.ErrRange"
  have hb := h.filter fun x => x.1 == "math/bits.deBruijn64tab"
  have e1 : (laidAll.filter fun x => x.1 == "internal/strconv.uint64pow10") = [("internal/strconv.uint64pow10", Lib.tabData .u64 Lib.pow10Tab)] := by kernel_rfl
  have e2 : (laidAll.filter fun x => x.1 == "strconv.ErrSyntax") = [("strconv.ErrSyntax", Rows.laid_strconv_ErrSyntax)] := by kernel_rfl
  have e3 : (laidAll.filter fun x => x.1 == "strconv.ErrRange") = [("strconv.ErrRange", Rows.laid_strconv_ErrRange)] := by kernel_rfl
  have e4 : (laidAll.filter fun x => x.1 == "math/bits.deBruijn64tab") = [("math/bits.deBruijn64tab", Rows.laid_math_bits_deBruijn64tab)] := by kernel_rfl
  rw [e1] at hp; rw [e2] at hs; rw [e3] at hr; rw [e4] at hb
  have tp := Lib.tabIs_of_head (rest := []) gPow gPowType Tryz.underlying264 Tryz.underlying145 cellsU64 cellsPow hp
  obtain ⟨ps, ⟨g, t, cs, fuel, p, q, hg, ht, hvar, hd, _, _⟩, _⟩ := hs
  obtain rfl := Option.some.inj (gSyn.symm.trans hg)
  obtain rfl := Option.some.inj (gSynType.symm.trans ht)
  obtain ⟨u1, v1, hc1⟩ := iface_cell Tryz.underlying213 hd
  have cell1 := World.var?_cell gSyn hvar 0
  rw [← Array.getElem?_toList, hc1] at cell1
  obtain ⟨ps', ⟨g', t', cs', fuel', p', q', hg', ht', hvar', hd', _, _⟩, _⟩ := hr
  obtain rfl := Option.some.inj (gRan.symm.trans hg')
  obtain rfl := Option.some.inj (gRanType.symm.trans ht')
  obtain ⟨u2, v2, hc2⟩ := iface_cell Tryz.underlying213 hd'
  have cell2 := World.var?_cell gRan hvar' 0
  rw [← Array.getElem?_toList, hc2] at cell2
  obtain ⟨ps3, ⟨g3, t3, cs3, fuel3, p3, q3, hg3, ht3, hvar3, _, _, _⟩, _⟩ := hb
  have hlt : 8 < W.heap.size := by
    simp only [World.var?, gBru, Option.bind_some] at hvar3
    rcases Nat.lt_or_ge 8 W.heap.size with h | h
    · exact h
    · rw [Array.getElem?_eq_none h] at hvar3
      simp at hvar3
  refine ⟨fun W' hW' => ⟨?_, ⟨u1, v1, ?_⟩, ⟨u2, v2, ?_⟩⟩, hlt⟩
  · unfold Lib.TabIs World.var? at tp ⊢
    rw [gPow] at tp ⊢
    simp only [Option.bind_some] at tp ⊢
    rw [hW'.block 6 (by decide)]
    exact tp
  · rw [hW'.cell (p := ⟨4, 0, none⟩) (by decide)]
    exact cell1
  · rw [hW'.cell (p := ⟨5, 0, none⟩) (by decide)]
    exact cell2
theorem weight_at {H : Type} {P : Program} {ts : List TypeId} {ds : List (DataW H)} {j : Nat} {t : TypeId} {d : DataW H} (hz : (DataW.weightsEach P ts ds).all (· ≤ reachBytes) = true) (ht : ts[j]? = some t) (hd : ds[j]? = some d) : ∀ m ∈ d.weights P t, m ≤ reachBytes := fun m hm => by
  have := List.all_eq_true.1 hz _ (DataW.weights_mem_each ht hd m hm)
  simpa using this

/-- a world for a witness: the settled one, the variables as their initialisers lay them -/
noncomputable abbrev settledN (os : Os) : Nat := (World.settled Tryz.prog os).heap.size
noncomputable def heldWorld (os : Os) : World := World.holding Tryz.prog os ⟨#[.cells #[.string ⟨#[105, 110, 118, 97, 108, 105, 100, 32, 115, 121, 110, 116, 97, 120]⟩] 270, .cells #[.string ⟨#[118, 97, 108, 117, 101, 32, 111, 117, 116, 32, 111, 102, 32, 114, 97, 110, 103, 101]⟩] 270], #[], []⟩
def putCells (cs : Array Value) : Obj → Obj
  | .cells _ t frozen => .cells cs t frozen
  | o => o
def bru32 : List Int := [0, 1, 28, 2, 29, 14, 24, 3, 30, 22, 20, 15, 25, 17, 4, 8, 31, 27, 13, 23, 21, 19, 16, 7, 26, 12, 18, 6, 11, 5, 10, 9]
def bru64 : List Int := [0, 1, 56, 2, 57, 49, 28, 3, 61, 58, 42, 50, 38, 29, 17, 4, 62, 47, 59, 36, 45, 43, 51, 22, 53, 39, 33, 30, 24, 18, 12, 5, 63, 55, 48, 27, 60, 41, 37, 16, 46, 35, 44, 21, 52, 32, 23, 11, 54, 26, 40, 15, 34, 20, 31, 10, 25, 14, 19, 9, 13, 8, 7, 6]
noncomputable def laidWorld (os : Os) : World :=
  { heldWorld os with heap := (((((heldWorld os).heap.modify 6 (putCells (Lib.pow10Tab.map (Value.int .u64)).toArray)).modify 4 (putCells #[.iface 268 (.pointer (some ⟨settledN os, 0, none⟩))])).modify
      5 (putCells #[.iface 268 (.pointer (some ⟨settledN os + 1, 0, none⟩))])).modify 7 (putCells (bru32.map (Value.int .u8)).toArray)).modify 8 (putCells (bru64.map (Value.int .u8)).toArray) }
end Go.Proofs.YtdmaopfaeigelaaGreatDoor
