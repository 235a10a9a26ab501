/- Contracts over the digest's program: what a growth is; worlds that differ in one box. -/
import Derived.Test.YtceppmajbkmbdaaDoorDigApp2
import Derived.Test.YtceppmajbkmbdaaDoorDigTwo
import Derived.Test.YtceppmajbkmbdaaDoorDigGLen
namespace Go.Proofs.YtceppmajbkmbdaaDoor
set_option linter.unusedSimpArgs false
set_option linter.unusedVariables false
open Go.RowKit

def growP (l : List (List Int)) (n : Nat) (whole : Bool) : List (List Int) :=
  if h : l.length ≤ n ∨ l.length ≤ 1 then (if whole then [] else [treeP l]) else if n ≤ halfN l.length then growP (l.take (halfN l.length)) n whole ++ [treeP (l.drop (halfN l.length))] else growP (l.drop (halfN l.length)) (n - halfN l.length) false ++ [treeP (l.take (halfN l.length))]
termination_by l.length
decreasing_by
  · have := halfN_lt (n := l.length) (by omega); simp only [List.length_take]; omega
  · have := halfN_pos l.length; simp only [List.length_drop]; omega
theorem growP_end {l : List (List Int)} (whole : Bool) : growP l l.length whole = if whole then [] else [treeP l] := by rw [growP, dif_pos (Or.inl (Nat.le_refl _))]
theorem growP_left {l : List (List Int)} {n : Nat} (whole : Bool) (h1 : 1 ≤ n) (h : n < l.length) (ha : n ≤ halfN l.length) : growP l n whole = growP (l.take (halfN l.length)) n whole ++ [treeP (l.drop (halfN l.length))] := by
  rw [growP, dif_neg (by omega), if_pos ha]
theorem growP_right {l : List (List Int)} {n : Nat} (whole : Bool) (h1 : 1 ≤ n) (h : n < l.length) (ha : ¬ n ≤ halfN l.length) : growP l n whole = growP (l.drop (halfN l.length)) (n - halfN l.length) false ++ [treeP (l.take (halfN l.length))] := by
  rw [growP, dif_neg (by omega), if_neg ha]
theorem growP_spec (m : Nat) : ∀ (l : List (List Int)) (n : Nat) (whole : Bool), l.length = m → 1 ≤ n → n ≤ m → (growP l n whole).length = gLen n m whole ∧ ∀ d ∈ growP l n whole, Dg d := by
  induction m using Nat.strongRecOn with
  | _ m IH =>
    intro l n whole hl h1 hn
    by_cases h : n = m
    · subst h
      rw [← hl, growP_end, gLen_end]
      cases whole
      · exact ⟨rfl, fun d hd => by rw [List.mem_singleton.1 hd]; exact dg_tree _⟩
      · exact ⟨rfl, fun d hd => by simp at hd⟩
    · have hk := halfN_lt (n := m) (by omega)
      have hk0 := halfN_pos m
      by_cases ha : n ≤ halfN m
      · have hlt : (l.take (halfN m)).length = halfN m := by simp; omega
        obtain ⟨i1, i2⟩ := IH (halfN m) hk (l.take (halfN m)) n whole hlt h1 ha
        have e := growP_left (l := l) whole h1 (by omega) (hl ▸ ha)
        rw [hl] at e
        rw [e]
        refine ⟨by rw [List.length_append, i1, gLen_left whole h1 (by omega) ha, List.length_singleton]; omega, fun x hx => ?_⟩
        rcases List.mem_append.1 hx with h | h
        · exact i2 x h
        · rw [List.mem_singleton.1 h]; exact dg_tree _
      · have hld : (l.drop (halfN m)).length = m - halfN m := by simp; omega
        obtain ⟨i1, i2⟩ := IH (m - halfN m) (by omega) (l.drop (halfN m)) (n - halfN m) false hld (by omega) (by omega)
        have e := growP_right (l := l) whole h1 (by omega) (hl ▸ ha)
        rw [hl] at e
        rw [e]
        refine ⟨by rw [List.length_append, i1, gLen_right whole h1 (by omega) ha, List.length_singleton]; omega, fun x hx => ?_⟩
        rcases List.mem_append.1 hx with h | h
        · exact i2 x h
        · rw [List.mem_singleton.1 h]; exact dg_tree _

/-- a later world: below a bound only one block may differ -/
structure GK (base P : Nat) (w w' : World) : Prop where
  os : w'.os = w.os
  tape : w'.tape = w.tape
  output : w'.output = w.output
  size : w.heap.size ≤ w'.heap.size
  block : ∀ k, k < base → k ≠ P → w'.heap[k]? = w.heap[k]?
theorem GK.refl (base P : Nat) (w : World) : GK base P w w := ⟨rfl, rfl, rfl, Nat.le_refl _, fun _ _ _ => rfl⟩
theorem GK.trans {base P : Nat} {w w' w'' : World} (h : GK base P w w') (h' : GK base P w' w'') : GK base P w w'' :=
  ⟨h'.os.trans h.os, h'.tape.trans h.tape, h'.output.trans h.output, Nat.le_trans h.size h'.size, fun k hk hp => (h'.block k hk hp).trans (h.block k hk hp)⟩
theorem GK.below {base P : Nat} {w w' : World} (hb : base ≤ w.heap.size) (h : Below w.heap.size w w') : GK base P w w' :=
  ⟨h.os, h.tape, h.output, h.size, fun k hk _ => h.block k (Nat.lt_of_lt_of_le hk hb)⟩
theorem GK.grown {base P : Nat} {w w' : World} {r : Option Nat} (hb : base ≤ w.heap.size) (h : w.grownBy w' r) (hr : ∀ k, r = some k → base ≤ k ∨ k = P) : GK base P w w' :=
  ⟨h.os, h.tape, h.output, h.size, fun k hk hp => h.block k (Nat.lt_of_lt_of_le hk hb) (fun e => by rcases hr k e.symm with h | h <;> omega)⟩
theorem GK.byAt {base P : Nat} {w w' : World} (h : GK base P w w') {b : Nat} {t : TypeId} {l : List Int} (ho : ByAt w b t l) (hb : b < base) (hp : b ≠ P) : ByAt w' b t l := (h.block b hb hp).trans ho
theorem GK.cell {base P : Nat} {w w' : World} (h : GK base P w w') {b o : Nat} {v : Value} (ho : w.cell? ⟨b, o, none⟩ = some v) (hb : b < base) (hp : b ≠ P) : w'.cell? ⟨b, o, none⟩ = some v := by
  rw [cell_block (h.block b hb hp)]
  exact ho
def Low (base P : Nat) (A : Option Addr) : Prop := ∀ a, A = some a → a.block < base ∧ a.block ≠ P
theorem GK.ds {base P : Nat} {w w' : World} (h : GK base P w w') {A : Option Addr} {l : List (List Int)} (ho : Ds w A l) (hA : Low base P A) : Ds w' A l := by
  refine ⟨ho.dg, fun hl => ?_⟩
  obtain ⟨b, o, rfl, hc⟩ := ho.at_ hl
  obtain ⟨h1, h2⟩ := hA _ rfl
  exact ⟨b, o, rfl, fun i d hd j v hv => h.cell (hc i d hd j v hv) h1 h2⟩
theorem GK.tab {base P : Nat} {w w' : World} (h : GK base P w w') (hT : DTab w) (hb : gTop ≤ base) (hp : gTop ≤ P) : DTab w' := by
  have key : ∀ g, g < gTop → ∀ i, w'.cell? ⟨g, i, none⟩ = w.cell? ⟨g, i, none⟩ := fun g hg i => cell_block (h.block g (Nat.lt_of_lt_of_le hg hb) (by omega)) i
  refine ⟨fun i hi => by rw [key _ (by decide)]; exact hT.c i hi, fun i hi => by rw [key _ (by decide)]; exact hT.p i hi, fun i hi => by rw [key _ (by decide)]; exact hT.t i hi, Nat.le_trans hT.top h.size⟩
/-- a box that holds a slice of digests -/
def PB (w : World) (P : Nat) (v : Value) : Prop := w.heap[P]? = some (.cells #[v] 26 (0, 0))
theorem PB.cell {w : World} {P : Nat} {v : Value} (h : PB w P v) : w.cell? ⟨P, 0, none⟩ = some v := by
  unfold PB at h
  simp only [World.cell?, h]
  rfl
theorem PB.free {w : World} {P : Nat} {v : Value} (h : PB w P v) : w.frozen? ⟨P, 0, none⟩ = false := by
  unfold PB at h
  simp [World.frozen?, h]
theorem PB.lt {w : World} {P : Nat} {v : Value} (h : PB w P v) : P < w.heap.size := (Array.getElem?_eq_some_iff.1 h).1
theorem PB.later {w w' : World} {P : Nat} {v : Value} (h : PB w P v) (hb : Below w.heap.size w w') : PB w' P v := (hb.block P h.lt).trans h
theorem PB.grown {w w' : World} {P : Nat} {v : Value} {r : Option Nat} (h : PB w P v) (hg : w.grownBy w' r) (hr : ∀ k, r = some k → k ≠ P) : PB w' P v := (hg.block P h.lt (fun e => hr P e.symm rfl)).trans h
theorem PB.put {w : World} {P : Nat} {v : Value} (h : PB w P v) (u : Value) : PB (w.setCell ⟨P, 0, none⟩ u) P u := by
  unfold PB at h ⊢
  rw [box_put h]
  rfl
theorem PB.gk {w : World} {base P : Nat} (u : Value) : GK base P w (w.setCell ⟨P, 0, none⟩ u) :=
  ⟨rfl, rfl, rfl, Nat.le_of_eq (by show w.heap.size = (w.heap.modify P _).size; simp), fun k _ hp => heap_setCell_other w _ k _ hp⟩
theorem OwnD.put {w : World} {base P : Nat} {v u : Value} {p : List (List Int)} (h : OwnD w base v p) (hP : P < base) : OwnD (w.setCell ⟨P, 0, none⟩ u) base v p := by
  refine ⟨h.1, ?_⟩
  rcases h.2 with h | ⟨g, cap, cur, rfl, hbg, hg, r⟩
  · exact .inl h
  · exact .inr ⟨g, cap, cur, rfl, hbg, (heap_setCell_other w _ g _ (show g ≠ P by omega)).trans hg, r⟩
end Go.Proofs.YtceppmajbkmbdaaDoor
