/- Contracts over the program of money: the sort of remainders. -/
import Derived.Test.YthbdhlcimgiemaaDoorMonRow
import Derived.Test.YthbdhlcimgiemaaDoorMonSortLay
namespace Go.Proofs.YthbdhlcimgiemaaDoor
set_option linter.unusedSimpArgs false
set_option linter.unusedVariables false
open Go.RowKit

theorem ltCmp (x y : Rm) : Go.Proofs.ltOf cmpR x y = ltR x y := by
  unfold Go.Proofs.ltOf
  exact cmpR_lt x y
theorem swoCmp : Sort.SWO (Go.Proofs.ltOf cmpR) where
  irrefl x := by rw [ltCmp]; exact ltR_irr x
  trans x y z h1 h2 := by rw [ltCmp] at *; rw [ltR_iff] at *; omega
  ntrans x y z h1 h2 := by rw [ltCmp] at *; rw [Bool.eq_false_iff, Ne, ltR_iff] at *; omega
theorem cmpLays (blk off size : Nat) (w : World) : Go.Proofs.CmpLays Tryd.prog 36 #[] encR 2 cmpR blk off size w :=
  fun _ _ _ _ x y => compare_any x y _
/-- remainders at an address -/
def RmAt (w : World) (g : Nat) (l : List Rm) : Prop := ∀ j, j < l.length → w.cell? ⟨g, j * 2, none⟩ = some (.int .i64 (l.getD j (0, 0)).1) ∧ w.cell? ⟨g, j * 2 + 1, none⟩ = some (.int .i64 (l.getD j (0, 0)).2)
theorem rmAt_holds {w : World} {g : Nat} {d : Array Rm} (h : Sort.HoldsK encR 2 w g 0 d) : RmAt w g d.toList := by
  intro k hk
  have hk' : k < d.size := by simpa using hk
  have h0 := (h.cell hk' (c := 0) (by decide)).1
  have h1 := (h.cell hk' (c := 1) (by decide)).1
  have e : d.toList.getD k (0, 0) = d[k] := by rw [List.getD_eq_getElem?_getD, List.getElem?_eq_getElem hk]; simp
  rw [e]
  refine ⟨?_, ?_⟩
  · simpa [encR, getElem!_pos d k hk'] using h0
  · simpa [encR, getElem!_pos d k hk'] using h1
theorem ltR_tot {x y : Rm} (h1 : ltR x y = false) (h2 : ltR y x = false) : x = y := by
  rw [Bool.eq_false_iff, Ne, ltR_iff] at *
  apply Prod.ext <;> omega
theorem before_of {s : List Rm} (hn : s.Nodup) (h : s.Pairwise fun x y => ltR y x = false) : Before s := by
  unfold Before
  refine (h.and hn).imp fun {x y} ⟨h1, h2⟩ => ?_
  cases h3 : ltR x y with
  | true => rfl
  | false => exact absurd (ltR_tot h3 h1) h2

/-- how the sort ends -/
def Sorted (B g : Nat) (l : List Rm) (w : World) (e : Ending) (w' : World) : Prop :=
  e = .returned (.tuple #[]) ∧ ∃ s : List Rm, s.Perm l ∧ Before s ∧ RmAt w' g s ∧ Below B w w' ∧ (∀ k, k < w.heap.size → k ≠ g → w'.heap[k]? = w.heap[k]?)
theorem sort_any (g c n : Nat) (l : List Rm) (w : World) (B : Nat) (hB : B ≤ w.heap.size) (hn : l.length = n) (hn2 : n ≤ 1000000) (hd : l.Nodup) (h : w.ownsRow B 57 2 (.slice (some ⟨g, 0, none⟩) n c) n (flat l)) :
    Calls Tryd.prog 35 #[.slice (some ⟨g, 0, none⟩) n c, .func (.func 36) #[] #[]] w (Sorted B g l w) := by
  have eg : ∀ args w, (callFunc 36 args).run Tryd.prog w = .ok (.enter 36 args) w := Go.Proofs.enters_of Tryd.func36 (by kernel_rfl) rfl
  have hg : B ≤ g ∧ g < w.heap.size := h.lt g rfl
  have hH := holds_own hn h
  have hcon := Go.Proofs.AnyQ.slices_SortFunc Tryd.sortRm 2 Tryd.isAgg57 Tryd.sizeOf57 encR (fun _ => rfl) (fun x v hv => by simp [encR] at hv; rcases hv with rfl | rfl <;> rfl) cmpR swoCmp 36 #[] g 0 c l.toArray w eg (cmpLays g 0 l.toArray.size w) hH hg.2 (by simp; omega)
  change Calls Tryd.prog 35 _ _ _ at hcon
  rw [show l.toArray.size = n by simpa using hn] at hcon
  refine hcon.mono ?_
  rintro e w' ⟨rfl, d', q, os, hp, hs, rfl⟩
  have hsz : d'.size = n := by rw [hp.1]; simpa using hn
  have hperm : d'.toList.Perm l := by
    have h2 := hp.2.2
    rw [Array.extract_eq_self_of_le (by omega), Array.extract_eq_self_of_le (by simp; omega)] at h2
    simpa using h2
  refine ⟨rfl, d'.toList, hperm, ?_, ?_, below_sort hB hg.1 q d' os, ?_⟩
  · refine before_of (hperm.nodup_iff.2 hd) ?_
    rw [List.pairwise_iff_getElem]
    intro i j hi hj hij
    have := hs i j (Nat.zero_le _) hij (by simp at hj; omega)
    rw [ltCmp] at this
    simp at hi hj
    rw [getElem!_pos d' i hi, getElem!_pos d' j hj] at this
    simpa using this
  · exact rmAt_holds (Sort.holdsK_grow encR 2 _ os g 0 d' (by simpa [Sort.putRowK, Sort.putRow, Sort.mapBlock, Sort.ahead] using hg.2) (Sort.holdsK_putRowK encR 2 (Sort.ahead w q) g 0 l.toArray d' hH (by simp; omega)))
  · intro k hk hne
    simp only [Go.Proofs.sortWorldK, Sort.grow, Sort.putRowK, Sort.putRow, Sort.mapBlock, Sort.ahead]
    rw [Array.getElem?_append_left (by simpa using hk), Array.getElem?_modify, if_neg (by omega)]
theorem rms_nodup : ∀ (l : List Int) (i : Nat), (rmsFrom i l).Nodup ∧ ∀ x ∈ rmsFrom i l, (i : Int) ≤ x.1
  | [], i => ⟨List.nodup_nil, fun x hx => by cases hx⟩
  | r :: t, i => by
    obtain ⟨h1, h2⟩ := rms_nodup t (i + 1)
    refine ⟨List.nodup_cons.2 ⟨fun h => ?_, h1⟩, fun x hx => ?_⟩
    · have := h2 _ h
      simp at this
      omega
    · rcases List.mem_cons.1 hx with rfl | hx
      · exact Int.le_refl _
      · have := h2 x hx
        simp at this
        omega
end Go.Proofs.YthbdhlcimgiemaaDoor
