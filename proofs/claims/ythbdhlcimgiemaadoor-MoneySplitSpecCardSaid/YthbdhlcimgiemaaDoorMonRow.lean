/- Rows of remainders and arrays of numbers in memory. -/
import Derived.Test.YthbdhlcimgiemaaDoorMonWts
import Derived.Shelf.SlSortCmp.WholeK
namespace Go.Proofs.YthbdhlcimgiemaaDoor
set_option linter.unusedSimpArgs false
set_option linter.unusedVariables false
open Go.RowKit

theorem lt_of_block {w : World} {b : Nat} {o : Obj} (h : w.heap[b]? = some o) : b < w.heap.size := (Array.getElem?_eq_some_iff.1 h).1
theorem box_put {w : World} {N i : Nat} {v : Value} {cs : Array Value} {t : TypeId} {fz : Nat × Nat} (h : w.heap[N]? = some (.cells cs t fz)) : (w.setCell ⟨N, i, none⟩ v).heap[N]? = some (.cells (cs.setIfInBounds i v) t fz) := by
  have hlt := lt_of_block h
  have h' : w.heap[N] = .cells cs t fz := by simpa [Array.getElem?_eq_getElem hlt] using h
  show (w.heap.modify N _)[N]? = _
  rw [Array.getElem?_eq_getElem (by simpa using hlt), Array.getElem_modify_self, h']
  rfl
def upd (f : Nat → Int) (j : Nat) (v : Int) : Nat → Int := fun k => if k = j then v else f k
/-- n integers of a kind -/
def kc (k : IntKind) (n : Nat) (f : Nat → Int) : List Value := (List.range n).map fun j => Value.int k (f j)
abbrev kv (k : IntKind) (n : Nat) (f : Nat → Int) : Value := .agg (kc k n f).toArray
def KAt (k : IntKind) (n : Nat) (w : World) (b : Nat) (t : TypeId) (f : Nat → Int) : Prop := w.heap[b]? = some (.cells (kc k n f).toArray t (0, 0))
theorem kc_length (k : IntKind) (n : Nat) (f : Nat → Int) : (kc k n f).length = n := by simp [kc]
theorem kc_get {k : IntKind} {n : Nat} {f : Nat → Int} {j : Nat} (h : j < n) : (kc k n f)[j]? = some (.int k (f j)) := by
  unfold kc
  rw [List.getElem?_map, List.getElem?_range h]
  rfl
theorem kc_congr {k : IntKind} {n : Nat} {f g : Nat → Int} (e : ∀ j, j < n → f j = g j) : kc k n f = kc k n g := by
  unfold kc
  exact List.map_congr_left fun j hj => by rw [e j (by simpa using hj)]
theorem kc_set {k : IntKind} {n : Nat} {f : Nat → Int} {j : Nat} (h : j < n) (v : Int) : (kc k n f).toArray.setIfInBounds j (.int k v) = (kc k n (upd f j v)).toArray := by
  rw [List.setIfInBounds_toArray]
  congr 1
  apply List.ext_getElem?
  intro i
  rw [List.getElem?_set, kc_length]
  by_cases hi : i < n
  · rw [kc_get hi]
    by_cases hij : j = i
    · subst hij; rw [if_pos rfl, if_pos h, kc_get h]; simp [upd]
    · rw [if_neg hij, kc_get hi]; simp [upd, Ne.symm hij]
  · have hji : ¬ j = i := fun e => hi (e ▸ h)
    rw [if_neg hji, List.getElem?_eq_none (by rw [kc_length]; omega), List.getElem?_eq_none (by rw [kc_length]; omega)]
section
variable {k : IntKind} {n : Nat} {w w' : World} {b : Nat} {t : TypeId} {f g : Nat → Int}
theorem KAt.lt (h : KAt k n w b t f) : b < w.heap.size := lt_of_block h
theorem KAt.cell (h : KAt k n w b t f) {j : Nat} (hj : j < n) : w.cell? ⟨b, j, none⟩ = some (.int k (f j)) := by
  unfold KAt at h
  simp only [World.cell?, h]
  rw [List.getElem?_toArray]
  exact kc_get hj
theorem KAt.free (h : KAt k n w b t f) (j : Nat) : w.frozen? ⟨b, j, none⟩ = false := by
  unfold KAt at h
  simp [World.frozen?, h]
theorem KAt.set (h : KAt k n w b t f) {j : Nat} (hj : j < n) (v : Int) : KAt k n (w.setCell ⟨b, j, none⟩ (.int k v)) b t (upd f j v) := by
  unfold KAt at h ⊢
  rw [box_put h, kc_set hj]
theorem KAt.fn (h : KAt k n w b t f) (e : ∀ j, j < n → f j = g j) : KAt k n w b t g := by
  unfold KAt at h ⊢
  rw [h, kc_congr e]
theorem KAt.keep (h : KAt k n w b t f) (hb : Below w.heap.size w w') : KAt k n w' b t f := (hb.block b h.lt).trans h
theorem KAt.grown {nb : Nat} (h : KAt k n w b t f) (hb : w.grownBy w' (some nb)) (hne : b ≠ nb) : KAt k n w' b t f := (hb.block b h.lt (fun e => by injection e with e; exact hne e)).trans h
end
def flat (l : List Rm) : List Value := l.flatMap fun x => [.int .i64 x.1, .int .i64 x.2]
theorem flat_length (l : List Rm) : (flat l).length = l.length * 2 := by
  induction l with
  | nil => rfl
  | cons a r ih => simp [flat] at ih ⊢; omega
theorem flat_append (a b : List Rm) : flat (a ++ b) = flat a ++ flat b := by simp [flat]
theorem flat_get (l : List Rm) (k : Nat) (x : Rm) (h : l[k]? = some x) : (flat l)[k * 2]? = some (.int .i64 x.1) ∧ (flat l)[k * 2 + 1]? = some (.int .i64 x.2) := by
  induction l generalizing k with
  | nil => simp at h
  | cons a r ih =>
    cases k with
    | zero => simp at h; subst h; simp [flat]
    | succ k =>
      have := ih k (by simpa using h)
      have e1 : (k + 1) * 2 = k * 2 + 1 + 1 := by omega
      simp only [flat, List.flatMap_cons, List.cons_append, List.nil_append] at this ⊢
      rw [e1]
      simpa using this

/-- a row of the call's own that holds l -/
def OwnR (w : World) (B : Nat) (v : Value) (l : List Rm) : Prop := w.ownsRow B 57 2 v l.length (flat l)
theorem twoCells {w : World} {g : Nat} {x y : Value} (h0 : w.cell? ⟨g, 0, none⟩ = some x) (h1 : w.cell? ⟨g, 1, none⟩ = some y) : ∀ (j : Nat) (u : Value), [x, y][j]? = some u → w.cell? ((⟨g, 0, none⟩ : Addr).add j) = some u := by
  intro j u hj
  match j, hj with
  | 0, hj => simp at hj; subst hj; exact h0
  | 1, hj => simp at hj; subst hj; exact h1
  | j + 2, hj => simp at hj
theorem twoOne (a b : Int) : ∀ u ∈ [Value.int .i64 a, Value.int .i64 b], u.oneCell' = true := by
  intro u hu
  simp at hu
  rcases hu with rfl | rfl <;> rfl

theorem infoR : (Tryd.prog.info? 57).map (fun i => (i.zero, i.size, i.bytes)) = some (some (.agg #[.int .i64 0, .int .i64 0]), 2, 16) := by kernel_rfl

theorem ownBelow {w w1 W : World} {B : Nat} {e : TypeId} {size : Nat} {v : Value} {n : Nat} {xs : List Value} (h : Below B W w) (hown : w.ownsRow B e size v n xs) (hg : w.grownBy w1 v.ownBlock) (hB : B ≤ w.heap.size) : Below B W w1 :=
  h.grown hg hB (fun k hk => (hown.lt k hk).1)
theorem ownBelow2 {w w1 W : World} {B B' : Nat} {e : TypeId} {size : Nat} {v : Value} {n : Nat} {xs : List Value} (h : Below B' W w) (hown : w.ownsRow B e size v n xs) (hg : w.grownBy w1 v.ownBlock) (hBB : B' ≤ B) (hB : B' ≤ w.heap.size) : Below B' W w1 :=
  h.grown hg hB (fun k hk => Nat.le_trans hBB (hown.lt k hk).1)
theorem ownDrew {w : World} {B : Nat} {e : TypeId} {size : Nat} {v : Value} {n : Nat} {xs : List Value} (q : Nat) (h : w.ownsRow B e size v n xs) : (w.drewN q).ownsRow B e size v n xs := h
def encR (x : Rm) : List Value := [.int .i64 x.1, .int .i64 x.2]
theorem holds_own {w : World} {B g n c : Nat} {l : List Rm} (hl : l.length = n) (h : w.ownsRow B 57 2 (.slice (some ⟨g, 0, none⟩) n c) n (flat l)) :
    Sort.HoldsK encR 2 w g 0 l.toArray := by
  intro j hj
  rw [Sort.size_flatK] at hj
  simp only [List.size_toArray] at hj
  refine ⟨?_, ?_⟩
  · rw [Nat.zero_add, h.cellAt j (by omega), Sort.get_flatK _ _ _ _ (by simpa using hj)]
    have hx := List.getElem?_eq_getElem (l := l) (i := j / 2) (by omega)
    have hg := flat_get l (j / 2) _ hx
    have hd : l.toArray[j / 2]! = l[j / 2]'(by omega) := by
      rw [getElem!_pos l.toArray (j / 2) (by simp; omega)]
      simp
    rw [hd]
    obtain hm | hm : j % 2 = 0 ∨ j % 2 = 1 := by omega
    · have e : j = j / 2 * 2 := by omega
      have h1 := hg.1
      rw [← e] at h1
      rw [h1, hm]; rfl
    · have e : j = j / 2 * 2 + 1 := by omega
      have h1 := hg.2
      rw [← e] at h1
      rw [h1, hm]; rfl
  · rw [Nat.zero_add]; exact h.frozenAt j

theorem below_sort {w : World} {B g : Nat} (hB : B ≤ w.heap.size) (hg : B ≤ g) (n : Nat) (d : Array Rm) (os : Array Obj) : Below B w (Go.Proofs.sortWorldK encR 2 w g 0 n d os) := by
  refine ⟨rfl, rfl, rfl, ?_, ?_⟩
  · simp [Go.Proofs.sortWorldK, Sort.grow, Sort.putRowK, Sort.putRow, Sort.mapBlock, Sort.ahead]
  · intro k hk
    simp only [Go.Proofs.sortWorldK, Sort.grow, Sort.putRowK, Sort.putRow, Sort.mapBlock, Sort.ahead]
    by_cases h : k < w.heap.size
    · rw [Array.getElem?_append_left (by simpa using h), Array.getElem?_modify, if_neg (by omega)]
    · omega

end Go.Proofs.YthbdhlcimgiemaaDoor
