/- What the laws of the codec share. -/
import Derived.Test.YtclpbjdnollfcaaDoorCodSane
import Derived.Test.YtclpbjdnollfcaaDoorClose
import Derived.BigQuiet
namespace Go.Proofs.YtclpbjdnollfcaaDoor
set_option linter.unusedSimpArgs false
set_option linter.unusedVariables false
open Go.RowKit Go.LawClose

theorem VAt.form {w : World} {V : Va} {v : Value} (h : VAt w V v) : ∃ k n s A m c A' m' c', v = vaV k n s A m c A' m' c' := by
  cases h
  exact ⟨_, _, _, _, _, _, _, _, _, rfl⟩
theorem heap_two (w : World) (a b : Obj) : ((w.alloc a).alloc b).heap[w.heap.size + 1]? = some b := by
  have e : w.heap.size + 1 = (w.alloc a).heap.size := by simp
  rw [e]
  exact heap_alloc_new _ _
theorem elsAt_two {W : World} {N : Nat} {k n : Int} {s : ByteArray} {A : Option Addr} {m c : Nat} {A' : Option Addr} {m' c' : Nat} {k2 n2 : Int} {s2 : ByteArray} {B : Option Addr} {p d : Nat} {B' : Option Addr} {p' d' : Nat} {V V' : Va}
    (h : W.heap[N]? = some (.cells #[.int .i64 k, .int .i64 n, .string s, .slice A m c, .slice A' m' c', .int .i64 k2, .int .i64 n2, .string s2, .slice B p d, .slice B' p' d'] 25 (0, 0)))
    (hv : VAt W V (vaV k n s A m c A' m' c')) (hv' : VAt W V' (vaV k2 n2 s2 B p d B' p' d')) : ElsAt W (some ⟨N, 0, none⟩) [V, V'] := by
  have c := fun i => (boxAt h i).1
  intro i x hx
  match i, hx with
  | 0, hx => simp at hx; subst hx; exact ⟨N, 0, _, _, _, _, _, _, _, _, _, rfl, c 0, c 1, c 2, c 3, c 4, hv⟩
  | 1, hx => simp at hx; subst hx; exact ⟨N, 0, _, _, _, _, _, _, _, _, _, rfl, c 5, c 6, c 7, c 8, c 9, hv'⟩
  | i + 2, hx => simp at hx
theorem elsAt_one {W : World} {N : Nat} {k n : Int} {s : ByteArray} {A : Option Addr} {m c : Nat} {A' : Option Addr} {m' c' : Nat} {V : Va}
    (h : W.heap[N]? = some (.cells #[.int .i64 k, .int .i64 n, .string s, .slice A m c, .slice A' m' c'] 25 (0, 0)))
    (hv : VAt W V (vaV k n s A m c A' m' c')) : ElsAt W (some ⟨N, 0, none⟩) [V] := by
  have c := fun i => (boxAt h i).1
  intro i x hx
  match i, hx with
  | 0, hx => simp at hx; subst hx; exact ⟨N, 0, _, _, _, _, _, _, _, _, _, rfl, c 0, c 1, c 2, c 3, c 4, hv⟩
  | i + 1, hx => simp at hx
theorem few_enc' {V : Va} {v : Value} {w : World} (hv : VAt w V v) (h : fewB V = true) : V.nest ≤ 1000 ∧ V.enc.length ≤ 1000000000 := ⟨by have := few_nest h; omega, by have := few_enc hv h; omega⟩
theorem chk_split {V : Va} (h : chkE V = 0) : V.wf = true ∧ V.dep ≤ 16 := by
  unfold chkE at h
  cases hq : V.wf
  · simp [hq] at h
  · rw [hq] at h
    simp only [if_true] at h
    split at h
    · exact ⟨rfl, by assumption⟩
    · cases h
theorem encF_ok {V : Va} (h : chkE V = 0) : encF V = V.enc := by unfold encF; rw [if_pos h]
/-- no encoding is the beginning of another -/
theorem prefix_eq {V V' : Va} (h : chkE V = 0) (h' : chkE V' = 0) (hb : V.bd) (hb' : V'.bd) (t : List UInt8) (e : V'.enc = V.enc ++ t) : V = V' := by
  have f := forw (chk_split h).1 hb (chk_split h).2 t
  have f' := forw (chk_split h').1 hb' (chk_split h').2 []
  rw [List.append_nil, e, f] at f'
  injection f' with f'
  injection f' with f1 f2
theorem take_ne {V V' : Va} (h : chkE V = 0) (h' : chkE V' = 0) (hb : V.bd) (hb' : V'.bd) (hne : V ≠ V') : V.enc.take (min V.enc.length V'.enc.length) ≠ V'.enc.take (min V.enc.length V'.enc.length) := by
  intro e
  rcases Nat.le_total V.enc.length V'.enc.length with hl | hl
  · rw [Nat.min_eq_left hl, List.take_length] at e
    refine hne (prefix_eq h h' hb hb' (V'.enc.drop V.enc.length) ?_)
    conv => lhs; rw [← List.take_append_drop V.enc.length V'.enc]
    rw [← e]
  · rw [Nat.min_eq_right hl, List.take_length] at e
    refine hne (prefix_eq h' h hb' hb (V.enc.drop V'.enc.length) ?_).symm
    conv => lhs; rw [← List.take_append_drop V'.enc.length V.enc]
    rw [e]
theorem BAt.take {w : World} {A : Option Addr} {n c k : Nat} {l : List UInt8} (h : BAt w (.slice A n c) l) (hk : k ≤ l.length) : n = l.length ∧ BAt w (.slice A k c) (l.take k) := by
  obtain ⟨A', c', e, hA, h1, h2, h3⟩ := h
  injection e with e1 e2 e3
  subst e1 e2 e3
  have el : (l.take k).length = k := by rw [List.length_take]; omega
  refine ⟨rfl, A, c, by rw [el], hA.imp (fun ⟨a, b, d⟩ => ⟨a, by rw [b]; simp, d⟩) id, by rw [el]; omega, h2, fun i b hi => ?_⟩
  rw [List.getElem?_take] at hi
  split at hi
  · exact h3 i b hi
  · cases hi
theorem BAt.form {w : World} {bv : Value} {l : List UInt8} (h : BAt w bv l) : ∃ A c, bv = .slice A l.length c ∧ l.length ≤ c ∧ c ≤ 9223372036854775807 ∧ (A = none → l = [] ∧ c = 0) := by
  obtain ⟨A, c, e, hA, h1, h2, h3⟩ := h
  refine ⟨A, c, e, h1, h2, fun e => ?_⟩
  rcases hA with ⟨_, b, d⟩ | ⟨g, o, e', _⟩
  · exact ⟨b, d⟩
  · rw [e] at e'; cases e'
end Go.Proofs.YtclpbjdnollfcaaDoor
