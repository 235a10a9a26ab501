/- Contracts over the calendar's program, each for every input under its hypotheses: the sort. -/
import Derived.Test.YtbfpbmijmiljlaaDoorCalWalkI
import Derived.Test.YtbfpbmijmiljlaaDoorCalSortLay
namespace Go.Proofs.YtbfpbmijmiljlaaDoor
set_option linter.unusedSimpArgs false
set_option linter.unusedVariables false
open Go.RowKit

theorem cmp_any (x y : Int) (w : World) : Calls Tryd.prog 39 #[.int .i64 x, .int .i64 y] w fun e w' => e = .returned (.int .i64 (Lib.compareInt x y)) ∧ w' = w := by
  unfold Lib.compareInt
  by_cases h : x < y
  · rw [if_pos h]
    go_enter Tryd.func39, Tryd.ntmps39
    go_wp2_with (go_at_call 48; refine (isNaN_any _ _).mono ?_; rintro e w' ⟨rfl, rfl⟩)
    go_ret
    exact ⟨rfl, rfl⟩
  · rw [if_neg h]
    by_cases h2 : y < x
    · rw [if_pos h2]
      go_enter Tryd.func39, Tryd.ntmps39
      go_wp2_with (go_at_call 48; refine (isNaN_any _ _).mono ?_; rintro e w' ⟨rfl, rfl⟩)
      go_ret
      exact ⟨rfl, rfl⟩
    · rw [if_neg h2]
      go_enter Tryd.func39, Tryd.ntmps39
      go_wp2_with (go_at_call 48; refine (isNaN_any _ _).mono ?_; rintro e w' ⟨rfl, rfl⟩)
      go_ret
      exact ⟨rfl, rfl⟩

open Go.Sort in
theorem closureU (x y : CalI.Iv) (W : World) : Calls Tryd.prog 38 #[ivV x.1 x.2, ivV y.1 y.2] W fun e w' => e = .returned (.int .i64 (Lib.compareInt x.1 y.1)) ∧ ∃ q os', w' = grow (W.drewN q) os' := by
  have hcon := fun W' => cmp_any x.1 y.1 W'
  generalize Lib.compareInt x.1 y.1 = r at hcon ⊢
  have HC := hide hcon; clear hcon
  go_enter Tryd.func38, Tryd.ntmps38
  go_wp2_with (go_at_call 39; refine ((unhide HC) _).mono ?_; rintro e w' ⟨rfl, rfl⟩)
  go_ret
  exact ⟨rfl, 0, _, by rw [alloc_eq_grow, alloc_eq_grow, grow_grow]; rfl⟩

theorem cmpLays (blk off size : Nat) (w : World) : Go.Proofs.CmpLays Tryd.prog 38 #[] encIv 2 (fun x y => Lib.compareInt x.1 y.1) blk off size w :=
  fun _ _ _ _ x y => closureU x y _

/-- the sort, at a row of the call's own -/
theorem sort_any (g c n : Nat) (l : List CalI.Iv) (w : World) (B : Nat) (hB : B ≤ w.heap.size) (hn : l.length = n) (hn2 : n ≤ 1000000) (h : w.ownsRow B 34 2 (.slice (some ⟨g, 0, none⟩) n c) n (flat l)) :
    Calls Tryd.prog 37 #[.slice (some ⟨g, 0, none⟩) n c, .func (.func 38) #[] #[]] w
      fun e w' => e = .returned (.tuple #[]) ∧ ∃ s : List CalI.Iv, s.Perm l ∧ s.Pairwise (fun x y => x.1 ≤ y.1) ∧ IvAt w' (some ⟨g, 0, none⟩) s ∧ Below B w w' := by
  have eg : ∀ args w, (callFunc 38 args).run Tryd.prog w = .ok (.enter 38 args) w := Go.Proofs.enters_of Tryd.func38 (by kernel_rfl) rfl
  have hg : B ≤ g ∧ g < w.heap.size := h.lt g rfl
  have hH := holds_own hn h
  have hcon := Go.Proofs.AnyQ.slices_SortFunc Tryd.sortIv 2 Tryd.isAgg34 Tryd.sizeOf34 encIv (fun _ => rfl) (fun x v hv => by simp [encIv] at hv; rcases hv with rfl | rfl <;> rfl) (fun x y => Lib.compareInt x.1 y.1) swoLo 38 #[] g 0 c l.toArray w eg (cmpLays g 0 l.toArray.size w) hH hg.2 (by simp; omega)
  change Calls Tryd.prog 37 _ _ _ at hcon
  rw [show l.toArray.size = n by simpa using hn] at hcon
  refine hcon.mono ?_
  rintro e w' ⟨rfl, d', q, os, hp, hs, rfl⟩
  have hsz : d'.size = n := by rw [hp.1]; simpa using hn
  refine ⟨rfl, d'.toList, ?_, ?_, ?_, below_sort hB hg.1 q d' os⟩
  · have h2 := hp.2.2
    rw [Array.extract_eq_self_of_le (by omega), Array.extract_eq_self_of_le (by simp; omega)] at h2
    simpa using h2
  · rw [List.pairwise_iff_getElem]
    intro i j hi hj hij
    have := hs i j (Nat.zero_le _) hij (by simp at hj; omega)
    rw [ltLo] at this
    simp at hi hj
    rw [getElem!_pos d' i hi, getElem!_pos d' j hj] at this
    simp at this
    simpa using this
  · exact ivAt_holds (Sort.holdsK_grow encIv 2 _ os g 0 d' (by simpa [Sort.putRowK, Sort.putRow, Sort.mapBlock, Sort.ahead] using hg.2) (Sort.holdsK_putRowK encIv 2 (Sort.ahead w q) g 0 l.toArray d' hH (by simp; omega)))

end Go.Proofs.YtbfpbmijmiljlaaDoor
