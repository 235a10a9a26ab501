/- The lanes of the digest's state in memory. -/
import Derived.Test.YtceppmajbkmbdaaDoorDigRot
import Derived.Deep.LoopGhost
import Derived.Maps.AppendAt
import Derived.StillTailTactics
import Derived.Deep.DeepCutAuto
import Derived.Deep.RegionHeld3
namespace Go.Proofs.YtceppmajbkmbdaaDoor
set_option linter.unusedSimpArgs false
set_option linter.unusedVariables false
open Go.RowKit

theorem hide {p : Prop} (h : p) : Hid p := h
theorem unhide {p : Prop} (h : Hid p) : p := h
theorem belowDrewN {B : Nat} {a w : World} (n : Nat) (h : Below B a w) : Below B a (w.drewN n) := ⟨h.os, h.tape, h.output, h.size, h.block⟩
theorem thenB {W w1 w2 : World} (h1 : Below W.heap.size W w1) (h2 : Below w1.heap.size w1 w2) : Below W.heap.size W w2 := h1.trans (h2.mono h1.size)
theorem belowGrown {w w' : World} (rb : Nat) (h : Below w.heap.size w w') : w.grownBy w' (some rb) := ⟨h.os, h.tape, h.output, h.size, fun k hk _ => h.block k hk⟩
theorem lt_of_block {w : World} {b : Nat} {o : Obj} (h : w.heap[b]? = some o) : b < w.heap.size := (Array.getElem?_eq_some_iff.1 h).1
theorem box_put {w : World} {N i : Nat} {v : Value} {cs : Array Value} {t : TypeId} {fz : Nat × Nat} (h : w.heap[N]? = some (.cells cs t fz)) : (w.setCell ⟨N, i, none⟩ v).heap[N]? = some (.cells (cs.setIfInBounds i v) t fz) := by
  have hlt := lt_of_block h
  have h' : w.heap[N] = .cells cs t fz := by simpa [Array.getElem?_eq_getElem hlt] using h
  show (w.heap.modify N _)[N]? = _
  rw [Array.getElem?_eq_getElem (by simpa using hlt), Array.getElem_modify_self, h']
  rfl
theorem grownSet {w W : World} {b : Nat} (h : w.grownBy W (some b)) (i : Nat) (x : Value) : w.grownBy (W.setCell ⟨b, i, none⟩ x) (some b) := by
  refine World.grownBy.trans h ⟨rfl, rfl, rfl, by simp, fun k hk hne => ?_⟩
  have : k ≠ b := fun e => hne (by rw [e])
  exact Below.heap_setCell _ _ _ _ (by show k ≠ b; exact this)

/-- a region whose operations but the last few only read: the world behind the draw under a name of its own -/
theorem still_drew {P : Program} {id : Nat} {Q : Exit → Act → World → Prop} {a : Act} {w : World} {l : List Oper} (n : Nat) (W : World) (hW : Hid (W = w.drewN 1)) (hm : P.follows .mixedOrders = true) (hB : Region.lexTailB .any l.toArray n = true)
    (h : wpStill P l.toArray W (fun a' => wpList P l.toArray Q (l.drop n) a' W) (l.take n) a) : (Code.region id l.toArray true).wp P Q a w := by
  have e : W = w.drewN 1 := hW
  subst e
  exact wp_region_still_tail n hm hB h
theorem below_named {w W : World} (h : Hid (W = w.drewN 1)) : Below w.heap.size w W := by
  have e : W = w.drewN 1 := h
  subst e
  exact belowDrewN _ (Below.refl _ _)

/-- n numbers, then the rest of the block -/
def lnCells (n : Nat) (f : Nat → Int) (rest : List Value) : Array Value := ((List.range n).map (fun j => Value.int .u64 (f j)) ++ rest).toArray
def LnAt (n : Nat) (w : World) (b : Nat) (t : TypeId) (f : Nat → Int) (rest : List Value) : Prop := w.heap[b]? = some (.cells (lnCells n f rest) t (0, 0))
/-- the lanes, then the rest of the block -/
abbrev SpAt : World → Nat → TypeId → (Nat → Int) → List Value → Prop := LnAt 25
def upd (f : Nat → Int) (j : Nat) (v : Int) : Nat → Int := fun k => if k = j then v else f k
theorem lnCells_get (n : Nat) (f : Nat → Int) (rest : List Value) (j : Nat) (h : j < n) : (lnCells n f rest)[j]? = some (.int .u64 (f j)) := by
  unfold lnCells
  rw [List.getElem?_toArray, List.getElem?_append_left (by simpa using h), List.getElem?_map, List.getElem?_range h]
  rfl
theorem lnCells_rest (n : Nat) (f : Nat → Int) (rest : List Value) (j : Nat) : (lnCells n f rest)[n + j]? = rest[j]? := by
  unfold lnCells
  rw [List.getElem?_toArray, List.getElem?_append_right (by simp)]
  simp
theorem lnCells_set (n : Nat) (f : Nat → Int) (rest : List Value) (j : Nat) (h : j < n) (v : Int) : (lnCells n f rest).setIfInBounds j (.int .u64 v) = lnCells n (upd f j v) rest := by
  unfold lnCells
  rw [List.setIfInBounds_toArray, List.set_append, if_pos (by simpa using h)]
  congr 2
  apply List.ext_getElem?
  intro i
  rw [List.getElem?_set]
  simp only [List.getElem?_map, List.length_map, List.length_range]
  by_cases hi : i < n
  · rw [List.getElem?_range hi]
    by_cases hij : j = i
    · subst hij; simp [upd, h]
    · rw [if_neg hij]; simp [upd, Ne.symm hij]
  · have hji : ¬ j = i := fun e => hi (e ▸ h)
    rw [if_neg hji, List.getElem?_eq_none (by simpa using hi)]
    rfl
theorem LnAt.lt {n : Nat} {w : World} {b : Nat} {t : TypeId} {f : Nat → Int} {rest : List Value} (h : LnAt n w b t f rest) : b < w.heap.size := lt_of_block h
theorem LnAt.cell {n : Nat} {w : World} {b : Nat} {t : TypeId} {f : Nat → Int} {rest : List Value} (h : LnAt n w b t f rest) {j : Nat} (hj : j < n) : w.cell? ⟨b, j, none⟩ = some (.int .u64 (f j)) := by
  unfold LnAt at h
  simp [World.cell?, h, lnCells_get n f rest j hj]
theorem LnAt.rcell {n : Nat} {w : World} {b : Nat} {t : TypeId} {f : Nat → Int} {rest : List Value} (h : LnAt n w b t f rest) (j : Nat) : w.cell? ⟨b, n + j, none⟩ = rest[j]? := by
  unfold LnAt at h
  simp [World.cell?, h, lnCells_rest n f rest j]
theorem LnAt.free {n : Nat} {w : World} {b : Nat} {t : TypeId} {f : Nat → Int} {rest : List Value} (h : LnAt n w b t f rest) (j : Nat) : w.frozen? ⟨b, j, none⟩ = false := by
  unfold LnAt at h
  simp [World.frozen?, h]
theorem LnAt.set {n : Nat} {w : World} {b : Nat} {t : TypeId} {f : Nat → Int} {rest : List Value} (h : LnAt n w b t f rest) {j : Nat} (hj : j < n) (v : Int) : LnAt n (w.setCell ⟨b, j, none⟩ (.int .u64 v)) b t (upd f j v) rest := by
  unfold LnAt
  rw [box_put h, lnCells_set n f rest j hj]
theorem LnAt.fn {n : Nat} {w : World} {b : Nat} {t : TypeId} {f g : Nat → Int} {rest : List Value} (h : LnAt n w b t f rest) (e : ∀ j, j < n → f j = g j) : LnAt n w b t g rest := by
  unfold LnAt at h ⊢
  rw [h]
  unfold lnCells
  congr 3
  congr 1
  exact List.map_congr_left fun j hj => by rw [e j (by simpa using hj)]
theorem LnAt.keep {n : Nat} {w w' : World} {b : Nat} {t : TypeId} {f : Nat → Int} {rest : List Value} (h : LnAt n w b t f rest) (hb : Below w.heap.size w w') : LnAt n w' b t f rest := (hb.block b h.lt).trans h
theorem LnAt.other {n : Nat} {w : World} {b : Nat} {t : TypeId} {f : Nat → Int} {rest : List Value} (h : LnAt n w b t f rest) {p : Addr} (hp : b ≠ p.block) (v : Value) : LnAt n (w.setCell p v) b t f rest :=
  (Below.heap_setCell w p v b hp).trans h
theorem pushed {w W : World} {o : Obj} (h : W.heap = w.heap.push o) (h1 : W.os = w.os) (h2 : W.tape = w.tape) (h3 : W.output = w.output) : Below w.heap.size w W :=
  ⟨h1, h2, h3, by rw [h]; simp, fun k hk => by rw [h, Array.getElem?_push, if_neg (by omega)]⟩

/-! the steps of a round -/
abbrev Nt (a : Int) : Int := bits .xor .u64 IntKind.u64.max a
/-- the fourth step, for rows below k -/
def rowsF (f : Nat → Int) (k : Nat) (j : Nat) : Int := if j < 5 * k then X (f j) (An (Nt (f (j / 5 * 5 + (j + 1) % 5))) (f (j / 5 * 5 + (j + 2) % 5))) else f j
theorem rowsF_step (f : Nat → Int) (k : Nat) : ∀ j, (upd (upd (upd (upd (upd (rowsF f k) (5 * k) (X (f (5 * k)) (An (Nt (f (5 * k + 1))) (f (5 * k + 2))))) (5 * k + 1) (X (f (5 * k + 1)) (An (Nt (f (5 * k + 2))) (f (5 * k + 3)))))
    (5 * k + 2) (X (f (5 * k + 2)) (An (Nt (f (5 * k + 3))) (f (5 * k + 4))))) (5 * k + 3) (X (f (5 * k + 3)) (An (Nt (f (5 * k + 4))) (f (5 * k))))) (5 * k + 4) (X (f (5 * k + 4)) (An (Nt (f (5 * k))) (f (5 * k + 1))))) j = rowsF f (k + 1) j := by
  intro j
  unfold upd rowsF
  by_cases h4 : j = 5 * k + 4
  · subst h4
    rw [if_pos rfl, if_pos (by omega), show (5 * k + 4) / 5 * 5 + (5 * k + 4 + 1) % 5 = 5 * k by omega, show (5 * k + 4) / 5 * 5 + (5 * k + 4 + 2) % 5 = 5 * k + 1 by omega]
  rw [if_neg h4]
  by_cases h3 : j = 5 * k + 3
  · subst h3
    rw [if_pos rfl, if_pos (by omega), show (5 * k + 3) / 5 * 5 + (5 * k + 3 + 1) % 5 = 5 * k + 4 by omega, show (5 * k + 3) / 5 * 5 + (5 * k + 3 + 2) % 5 = 5 * k by omega]
  rw [if_neg h3]
  by_cases h2 : j = 5 * k + 2
  · subst h2
    rw [if_pos rfl, if_pos (by omega), show (5 * k + 2) / 5 * 5 + (5 * k + 2 + 1) % 5 = 5 * k + 3 by omega, show (5 * k + 2) / 5 * 5 + (5 * k + 2 + 2) % 5 = 5 * k + 4 by omega]
  rw [if_neg h2]
  by_cases h1 : j = 5 * k + 1
  · subst h1
    rw [if_pos rfl, if_pos (by omega), show (5 * k + 1) / 5 * 5 + (5 * k + 1 + 1) % 5 = 5 * k + 2 by omega, show (5 * k + 1) / 5 * 5 + (5 * k + 1 + 2) % 5 = 5 * k + 3 by omega]
  rw [if_neg h1]
  by_cases h0 : j = 5 * k
  · subst h0
    rw [if_pos rfl, if_pos (by omega), show (5 * k) / 5 * 5 + (5 * k + 1) % 5 = 5 * k + 1 by omega, show (5 * k) / 5 * 5 + (5 * k + 2) % 5 = 5 * k + 2 by omega]
  rw [if_neg h0]
  by_cases h : j < 5 * k
  · rw [if_pos h, if_pos (by omega)]
  · rw [if_neg h, if_neg (by omega)]
end Go.Proofs.YtceppmajbkmbdaaDoor
