/- What a row of the digest says of the package-level variables, as the contracts take it; a world for witnesses. -/
import Derived.Test.YtceppmajbkmbdaaDoorDigOpen
import Derived.LaidSub
import Derived.MakeChecks
import Derived.Lib.LaidTab
namespace Go.Proofs.YtceppmajbkmbdaaDoor
set_option linter.unusedSimpArgs false
set_option linter.unusedVariables false
set_option maxRecDepth 100000
open Go.ChangeShapes Go.WideShapes Go.ChangeAt Go.RowKit Go.Joins

abbrev laidAll : List (String × DataW Unit) := [("assize/digest.constants", Rows.laid_assize_digest_constants), ("assize/digest.turns", Rows.laid_assize_digest_turns), ("assize/digest.places", Rows.laid_assize_digest_places)]
theorem gCon : Tryd.prog.globalNamed "assize/digest.constants" = some 0 := by kernel_rfl
theorem gConType : (Tryd.prog.globals[0]?).map (·.type) = some 113 := by kernel_rfl
theorem gTur : Tryd.prog.globalNamed "assize/digest.turns" = some 2 := by kernel_rfl
theorem gTurType : (Tryd.prog.globals[2]?).map (·.type) = some 125 := by kernel_rfl
theorem gPla : Tryd.prog.globalNamed "assize/digest.places" = some 1 := by kernel_rfl
theorem gPlaType : (Tryd.prog.globals[1]?).map (·.type) = some 125 := by kernel_rfl
theorem cellsT1 : Tryd.prog.cellsOf 113 = 24 := by kernel_rfl
theorem cellsT2 : Tryd.prog.cellsOf 125 = 24 := by kernel_rfl
theorem cellsU64 : Tryd.prog.cellsOf 103 = 1 := by kernel_rfl
theorem cellsInt : Tryd.prog.cellsOf 3 = 1 := by kernel_rfl
def turnI : List Int := List.map (fun (n : Nat) => (n : Int)) turnT
def placeI : List Int := List.map (fun (n : Nat) => (n : Int)) placeT
theorem turnI_at : ∀ i, i < 24 → turnI.getD i 0 = ((turnAt i : Nat) : Int) := by decide
theorem placeI_at : ∀ i, i < 24 → placeI.getD i 0 = ((placeAt i : Nat) : Int) := by decide
theorem env_of {W : World} (h : laidMetH Tryd.prog laidAll W) : DTab W := by
  rw [Go.MakeChecks.laidMetH_plain _ _ _ (by kernel_rfl)] at h
  have hc := h.filter fun x => x.1 == "assize/digest.constants"
  have ht := h.filter fun x => x.1 == "assize/digest.turns"
  have hp := h.filter fun x => x.1 == "assize/digest.places"
  have e1 : (laidAll.filter fun x => x.1 == "assize/digest.constants") = [("assize/digest.constants", Lib.tabData .u64 constT)] := by kernel_rfl
  have e2 : (laidAll.filter fun x => x.1 == "assize/digest.turns") = [("assize/digest.turns", Lib.tabData .i64 turnI)] := by kernel_rfl
  have e3 : (laidAll.filter fun x => x.1 == "assize/digest.places") = [("assize/digest.places", Lib.tabData .i64 placeI)] := by kernel_rfl
  rw [e1] at hc; rw [e2] at ht; rw [e3] at hp
  have tc := Lib.tabIs_of_head (rest := []) gCon gConType Tryd.underlying113 Tryd.underlying103 cellsU64 cellsT1 hc
  have tt := Lib.tabIs_of_head (rest := []) gTur gTurType Tryd.underlying125 Tryd.underlying3 cellsInt cellsT2 ht
  have tp := Lib.tabIs_of_head (rest := []) gPla gPlaType Tryd.underlying125 Tryd.underlying3 cellsInt cellsT2 hp
  have c1 : ∀ i, i < 24 → W.cell? ⟨0, i, none⟩ = some (.int .u64 (constT.getD i 0)) := fun i hi => tc.cell gCon i hi
  have c2 : ∀ i, i < 24 → W.cell? ⟨2, i, none⟩ = some (.int .i64 ((turnAt i : Nat) : Int)) := fun i hi => by rw [tt.cell gTur i hi, turnI_at i hi]
  have c3 : ∀ i, i < 24 → W.cell? ⟨1, i, none⟩ = some (.int .i64 ((placeAt i : Nat) : Int)) := fun i hi => by rw [tp.cell gPla i hi, placeI_at i hi]
  have l1 := lt_of_cell (c1 0 (by decide))
  have l2 := lt_of_cell (c2 0 (by decide))
  have l3 := lt_of_cell (c3 0 (by decide))
  exact ⟨c1, c3, c2, Nat.succ_le_of_lt (Nat.max_lt.2 ⟨Nat.max_lt.2 ⟨l1, l3⟩, l2⟩)⟩
theorem weight_at {H : Type} {P : Program} {ts : List TypeId} {ds : List (DataW H)} {j : Nat} {t : TypeId} {d : DataW H} (hz : (DataW.weightsEach P ts ds).all (· ≤ reachBytes) = true) (ht : ts[j]? = some t) (hd : ds[j]? = some d) : ∀ m ∈ d.weights P t, m ≤ reachBytes := fun m hm => by
  have := List.all_eq_true.1 hz _ (DataW.weights_mem_each ht hd m hm)
  simpa using this
/-- a world for a witness: the settled one, the variables as their initialisers lay them -/
noncomputable abbrev heldWorld (os : Os) : World := World.holding Tryd.prog os ⟨#[], #[], []⟩
def putCells (cs : Array Value) : Obj → Obj
  | .cells _ t frozen => .cells cs t frozen
  | o => o
noncomputable def laidWorld (os : Os) : World :=
  { heldWorld os with heap := (((heldWorld os).heap.modify 0 (putCells (constT.map (Value.int .u64)).toArray)).modify 2 (putCells (turnI.map (Value.int .i64)).toArray)).modify 1 (putCells (placeI.map (Value.int .i64)).toArray) }
end Go.Proofs.YtceppmajbkmbdaaDoor
