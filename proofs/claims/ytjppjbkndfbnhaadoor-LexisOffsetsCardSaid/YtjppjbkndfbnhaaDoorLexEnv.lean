/- What a row of the laws of lexis says of the package-level variables, as the contracts take it; a world for witnesses. -/
import Derived.Test.YtjppjbkndfbnhaaDoorLexOpen
import Derived.Test.YtjppjbkndfbnhaaDoorClose
import Derived.LaidSub
import Derived.MakeChecks
import Derived.Lib.LaidTab
namespace Go.Proofs.YtjppjbkndfbnhaaDoor
set_option linter.unusedSimpArgs false
set_option linter.unusedVariables false
set_option maxRecDepth 100000
open Go.ChangeShapes Go.WideShapes Go.ChangeAt Go.RowKit Go.Joins

abbrev laidAll : List (String × DataW Unit) := [("assize/lexis.classes", Rows.laid_assize_lexis_classes)]
theorem gCls : Tryd.prog.globalNamed "assize/lexis.classes" = some 0 := by kernel_rfl
theorem gClsType : (Tryd.prog.globals[0]?).map (·.type) = some 73 := by kernel_rfl
theorem cellsT1 : Tryd.prog.cellsOf 73 = 128 := by kernel_rfl
theorem cellsCls : Tryd.prog.cellsOf 62 = 1 := by kernel_rfl
def clsI : List Int := List.map (fun (n : Nat) => (n : Int)) Lx.clsT
theorem clsI_at : ∀ i, i < 128 → clsI.getD i 0 = ((Lx.clsT.getD i 0 : Nat) : Int) := by decide
theorem env_of {W : World} (h : laidMetH Tryd.prog laidAll W) : Tab W := by
  rw [Go.MakeChecks.laidMetH_plain _ _ _ (by kernel_rfl)] at h
  have e1 : laidAll = [("assize/lexis.classes", Lib.tabData .u8 clsI)] := by kernel_rfl
  rw [e1] at h
  have tc := Lib.tabIs_of_head (rest := []) gCls gClsType Tryd.underlying73 Tryd.underlying62 cellsCls cellsT1 h
  have c1 : ∀ i, i < 128 → W.cell? ⟨0, i, none⟩ = some (.int .u8 ((Lx.clsT.getD i 0 : Nat) : Int)) := fun i hi => by rw [tc.cell gCls i hi, clsI_at i hi]
  exact ⟨c1, lt_of_cell (c1 0 (by decide))⟩
theorem weight_at {H : Type} {P : Program} {ts : List TypeId} {ds : List (DataW H)} {j : Nat} {t : TypeId} {d : DataW H} (hz : (DataW.weightsEach P ts ds).all (· ≤ reachBytes) = true) (ht : ts[j]? = some t) (hd : ds[j]? = some d) : ∀ m ∈ d.weights P t, m ≤ reachBytes := fun m hm => by
  have := List.all_eq_true.1 hz _ (DataW.weights_mem_each ht hd m hm)
  simpa using this
/-- a world for a witness: the settled one, the variables as their initialisers lay them -/
noncomputable abbrev heldWorld (os : Os) : World := World.holding Tryd.prog os ⟨#[], #[], []⟩
def putCells (cs : Array Value) : Obj → Obj
  | .cells _ t frozen => .cells cs t frozen
  | o => o
noncomputable def laidWorld (os : Os) : World :=
  { heldWorld os with heap := (heldWorld os).heap.modify 0 (putCells (clsI.map (Value.int .u8)).toArray) }
end Go.Proofs.YtjppjbkndfbnhaaDoor
