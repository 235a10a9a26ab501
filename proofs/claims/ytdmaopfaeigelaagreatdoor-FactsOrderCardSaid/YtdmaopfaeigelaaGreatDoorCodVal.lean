/- Values of the codec in memory: what a Go value of type api.Value reads as. -/
import Derived.Test.YtdmaopfaeigelaaGreatDoorChecked
import Derived.WalkKit
import Derived.ProofKit
import Derived.Handy
import Derived.Deep.QuietTactic
import Derived.BigQuiet
import Derived.Lib.Hide
import Derived.Outline
import Derived.OwnWalk
import Derived.Maps.AppendAt
namespace Go.Proofs.YtdmaopfaeigelaaGreatDoor
set_option linter.unusedSimpArgs false
set_option linter.unusedVariables false
open Go.RowKit

theorem hide {p : Prop} (h : p) : Hid p := h
theorem unhide {p : Prop} (h : Hid p) : p := h
theorem belowDrewN {B : Nat} {a w : World} (n : Nat) (h : Below B a w) : Below B a (w.drewN n) := ⟨h.os, h.tape, h.output, h.size, h.block⟩
theorem oldCells {W w1 : World} (hb : Below W.heap.size W w1) : (∀ b o, b < W.heap.size → w1.cell? ⟨b, o, none⟩ = W.cell? ⟨b, o, none⟩) ∧ (∀ b o, b < W.heap.size → w1.frozen? ⟨b, o, none⟩ = W.frozen? ⟨b, o, none⟩) :=
  ⟨fun b o h => hb.cell (p := ⟨b, o, none⟩) h, fun b o h => hb.frozen (p := ⟨b, o, none⟩) h⟩
theorem thenB {W w1 w2 : World} (h1 : Below W.heap.size W w1) (h2 : Below w1.heap.size w1 w2) : Below W.heap.size W w2 := h1.trans (h2.mono h1.size)
theorem advB {W0 cur cur' : World} {o : Obj} (h : Below W0.heap.size W0 cur) (hb : Below (cur.alloc o).heap.size (cur.alloc o) cur') : Below W0.heap.size W0 cur' :=
  (h.alloc h.size o).trans (hb.mono (by have := h.size; simp; omega))

theorem retB {a b : Bool} (h : a = b) : Ending.returned (.bool a) = .returned (.bool b) := by rw [h]
theorem retI {k : IntKind} {a b : Int} (h : a = b) : Ending.returned (.int k a) = .returned (.int k b) := by rw [h]

/-- a value: kind, number, text, elements, keys -/
inductive Va where
  | mk (k n : Int) (s : ByteArray) (l : List Va) (ks : List ByteArray)

def I64 (k : Int) : Prop := -9223372036854775808 ≤ k ∧ k ≤ 9223372036854775807

/-- five cells at an address -/
def Five (w : World) (b o : Nat) (v : Value) : Prop :=
  ∃ x0 x1 x2 x3 x4, v = .agg #[x0, x1, x2, x3, x4] ∧ w.cell? ⟨b, o, none⟩ = some x0 ∧ w.cell? ⟨b, o + 1, none⟩ = some x1 ∧ w.cell? ⟨b, o + 2, none⟩ = some x2 ∧ w.cell? ⟨b, o + 3, none⟩ = some x3 ∧ w.cell? ⟨b, o + 4, none⟩ = some x4

/-- the slice of strings at A reads as the list -/
def StrsAt (w : World) (A : Option Addr) (ks : List ByteArray) : Prop :=
  ∀ i s, ks[i]? = some s → ∃ b o, A = some ⟨b, o, none⟩ ∧ w.cell? ⟨b, o + i, none⟩ = some (.string s) ∧ s.size ≤ 140737488351232

inductive VAt (w : World) : Va → Value → Prop where
  | mk (k n : Int) (s : ByteArray) (l : List Va) (ks : List ByteArray) (A : Option Addr) (c : Nat) (A' : Option Addr) (c' : Nat)
      (hk : I64 k) (hn : I64 n) (hs : s.size ≤ 140737488351232) (hl : l.length ≤ 140737488351232) (hks : ks.length ≤ 140737488351232)
      (hA : A = none → c = 0) (hA' : A' = none → c' = 0) (hcp : l.length ≤ c)
      (b o : Nat) (vv : Nat → Value) (h5 : ∀ i, i < l.length → A = some ⟨b, o, none⟩ ∧ Five w b (o + i * 5) (vv i))
      (hat : ∀ (i : Nat) (x : Va), l[i]? = some x → VAt w x (vv i))
      (hkat : StrsAt w A' ks) :
      VAt w (.mk k n s l ks) (.agg #[.int .i64 k, .int .i64 n, .string s, .slice A l.length c, .slice A' ks.length c'])

theorem Five.below {w w' : World} {b o : Nat} {v : Value} (h : Five w b o v) (hb : Below w.heap.size w w') : Five w' b o v := by
  obtain ⟨x0, x1, x2, x3, x4, rfl, h0, h1, h2, h3, h4⟩ := h
  have k : ∀ {p v}, w.cell? p = some v → w'.cell? p = some v := fun {p v} h => (hb.cell (World.block_lt_of_cell? w p h)).trans h
  exact ⟨x0, x1, x2, x3, x4, rfl, k h0, k h1, k h2, k h3, k h4⟩
theorem StrsAt.below {w w' : World} {A : Option Addr} {ks : List ByteArray} (h : StrsAt w A ks) (hb : Below w.heap.size w w') : StrsAt w' A ks := by
  intro i s hs
  obtain ⟨b, o, e, hc, hz⟩ := h i s hs
  exact ⟨b, o, e, (hb.cell (World.block_lt_of_cell? w _ hc)).trans hc, hz⟩
theorem VAt.later {w w' : World} {V : Va} {v : Value} (h : VAt w V v) (hb : Below w.heap.size w w') : VAt w' V v := by
  induction h with
  | mk k n s l ks A c A' c' hk hn hs hl hks hA hA' hcp b o vv h5 hat hkat ih =>
    exact .mk k n s l ks A c A' c' hk hn hs hl hks hA hA' hcp b o vv (fun i hi => ⟨(h5 i hi).1, (h5 i hi).2.below hb⟩) ih (hkat.below hb)
end Go.Proofs.YtdmaopfaeigelaaGreatDoor
