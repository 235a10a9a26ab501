/- How an argument that is a list of intervals is read, with its capacity; an unsigned argument. -/
import Derived.Test.YtbfpbmijmiljlaaDoorCalOpenL
import Derived.Test.YtbfpbmijmiljlaaDoorCalWalkF
import Derived.Deep.SlicePairs
namespace Go.Proofs.YtbfpbmijmiljlaaDoor
set_option linter.unusedSimpArgs false
set_option linter.unusedVariables false
open Go.ChangeShapes Go.WideShapes Go.ChangeAt Go.RowKit Go.Joins Go.Deep

section
variable {H : Type} {enc : TypeId × Value → H} {w : World} {base b0 : Nat} {spare : Nat → Bool} {held : Bool} {r : Reach}
theorem ivs_of2 {v : Value} {d : DataW H} {p : List MemPlace} (hv : Value.okWide Tryd.prog w r b0 35 v) (h : DataW.Trod enc Tryd.prog w base spare held 35 v d p) :
    ∃ (A : Option Addr) (cap : Nat) (l : List CalI.Iv), v = .slice A l.length cap ∧ IvAt w A l ∧ (A = none → cap = 0) ∧ l.length ≤ 9223372036854775807 ∧ l.length ≤ cap := by
  obtain ⟨A, len, cap, rfl⟩ := okWide_slice Tryd.underlying35 hv
  obtain ⟨fuel, hf⟩ := h
  rcases open_slice_pairs Tryd.underlying35 Tryd.underlying34 (by kernel_rfl) rfl rfl (by kernel_rfl) (by kernel_rfl) hf with ⟨hcs, _⟩ | ⟨a, len', cap', m, n, V0, V1, D0, D1, P0, P1, hcs, _, hl, hm, hmeq, _, hall⟩
  · simp [Value.cells] at hcs
    obtain ⟨rfl, rfl, rfl⟩ := hcs
    exact ⟨none, 0, [], rfl, IvAt.nil _ _, fun _ => rfl, by decide, by simp⟩
  · simp [Value.cells] at hcs
    obtain ⟨rfl, rfl, rfl⟩ := hcs
    have hlm : len ≤ m := by rw [hmeq]; split <;> omega
    have num : Value → Int := fun v => match v with | .int _ k => k | _ => 0
    refine ⟨some a, cap, (List.range len).map fun i => ((match V0 i with | .int _ k => k | _ => 0 : Int), (match V1 i with | .int _ k => k | _ => 0 : Int)), by simp, ?_, (fun h => by cases h), (by simp; unfold maxLen at hm; omega), by simpa using hl⟩
    intro k hk
    have hk' : k < len := by simpa using hk
    obtain ⟨c0, c1, t0, t1⟩ := hall k (by omega)
    obtain ⟨q0, e0, _⟩ := int_of t0
    obtain ⟨q1, e1, _⟩ := int_of t1
    obtain ⟨b, off, spot⟩ := a
    have hs : spot = none := by
      have h0 := (hall 0 (by omega)).1
      simpa [Addr.add] using World.cell?_spot h0
    subst hs
    refine ⟨b, off, rfl, ?_, ?_⟩
    · have : (⟨b, off, none⟩ : Addr).add (k * 2) = ⟨b, off + k * 2, none⟩ := by
        unfold Addr.add; split
        · rename_i e; simp [e]
        · rfl
      rw [this] at c0
      rw [c0, e0]
      simp [e0]
    · have : (⟨b, off, none⟩ : Addr).add (k * 2 + 1) = ⟨b, off + k * 2 + 1, none⟩ := by
        unfold Addr.add; rw [if_neg (by omega)]; rfl
      rw [this] at c1
      rw [c1, e1]
      simp [e1]
theorem uintv_of {v : Value} {d : DataW H} {p : List MemPlace} (hv : Value.okWide Tryd.prog w r b0 48 v) (h : DataW.Trod enc Tryd.prog w base spare held 48 v d p) :
    ∃ k : Int, v = .int .u64 k ∧ 0 ≤ k := by
  obtain ⟨k, e, _, _, hw⟩ := open_int Tryd.underlying48 hv h
  simp only [Lit.wf, Bool.and_eq_true, decide_eq_true_eq] at hw
  exact ⟨k, e, hw.1⟩
end
end Go.Proofs.YtbfpbmijmiljlaaDoor
