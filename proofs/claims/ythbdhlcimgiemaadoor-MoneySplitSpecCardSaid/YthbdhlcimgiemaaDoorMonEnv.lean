/- What a row of the laws of money says of the package-level variables, as the contracts take it; a world for witnesses. -/
import Derived.Test.YthbdhlcimgiemaaDoorMonOpen
import Derived.LaidSub
import Derived.MakeChecks
import Derived.Lib.LaidTab
namespace Go.Proofs.YthbdhlcimgiemaaDoor
set_option linter.unusedSimpArgs false
set_option linter.unusedVariables false
set_option maxRecDepth 100000
open Go.ChangeShapes Go.WideShapes Go.ChangeAt Go.RowKit Go.Joins

abbrev laidAll : List (String × DataW Unit) := [("math/bits.deBruijn32tab", Rows.laid_math_bits_deBruijn32tab), ("math/bits.deBruijn64tab", Rows.laid_math_bits_deBruijn64tab), ("internal/strconv.uint64pow10", Rows.laid_internal_strconv_uint64pow10), ("unicode/utf8.acceptRanges", Rows.laid_unicode_utf8_acceptRanges), ("strconv.ErrRange", Rows.laid_strconv_ErrRange), ("strconv.ErrSyntax", Rows.laid_strconv_ErrSyntax), ("unicode/utf8.first", Rows.laid_unicode_utf8_first)]
theorem gPow : Tryd.prog.globalNamed "internal/strconv.uint64pow10" = some 5 := by kernel_rfl
theorem gPowType : (Tryd.prog.globals[5]?).map (·.type) = some 122 := by kernel_rfl
theorem cellsPow : Tryd.prog.cellsOf 122 = 20 := by kernel_rfl
theorem cellsU64 : Tryd.prog.cellsOf 62 = 1 := by kernel_rfl
theorem gSyn : Tryd.prog.globalNamed "strconv.ErrSyntax" = some 0 := by kernel_rfl
theorem gSynType : (Tryd.prog.globals[0]?).map (·.type) = some 48 := by kernel_rfl
theorem gRan : Tryd.prog.globalNamed "strconv.ErrRange" = some 1 := by kernel_rfl
theorem gRanType : (Tryd.prog.globals[1]?).map (·.type) = some 48 := by kernel_rfl
theorem gBru : Tryd.prog.globalNamed "math/bits.deBruijn64tab" = some 7 := by kernel_rfl

theorem iface_cell {w : World} {t : TypeId} {ms : Array (String × TypeId)} (ht : Tryd.prog.underlying t = some (.interface ms)) {fuel : Nat} {cs : List Value} {name : String} {d : DataW Unit} {p : List MemPlace}
    (h : DataW.trod (fun _ => ()) Tryd.prog w 0 (fun _ => true) false fuel t cs = some (.iface name d, p)) : ∃ u v, cs = [.iface u v] := by
  cases fuel with
  | zero => simp [DataW.trod] at h
  | succ fuel =>
    unfold DataW.trod at h
    rw [ht] at h
    split at h <;> simp_all
theorem env_of {W : World} (h : laidMetH Tryd.prog laidAll W) (hsh : W.ShapedOpen Tryd.prog) : Env W := by
  rw [Go.MakeChecks.laidMetH_plain _ _ _ (by kernel_rfl)] at h
  have hp := h.filter fun x => x.1 == "internal/strconv.uint64pow10"
  have hs := h.filter fun x => x.1 == "strconv.ErrSyntax"
  have hr := h.filter fun x => x.1 == "strconv.ErrRange"
  have hb := h.filter fun x => x.1 == "math/bits.deBruijn64tab"
  have e1 : (laidAll.filter fun x => x.1 == "internal/strconv.uint64pow10") = [("internal/strconv.uint64pow10", Lib.tabData .u64 Lib.pow10Tab)] := by kernel_rfl
  have e2 : (laidAll.filter fun x => x.1 == "strconv.ErrSyntax") = [("strconv.ErrSyntax", Rows.laid_strconv_ErrSyntax)] := by kernel_rfl
  have e3 : (laidAll.filter fun x => x.1 == "strconv.ErrRange") = [("strconv.ErrRange", Rows.laid_strconv_ErrRange)] := by kernel_rfl
  have e4 : (laidAll.filter fun x => x.1 == "math/bits.deBruijn64tab") = [("math/bits.deBruijn64tab", Rows.laid_math_bits_deBruijn64tab)] := by kernel_rfl
  rw [e1] at hp; rw [e2] at hs; rw [e3] at hr; rw [e4] at hb
  have tp := Lib.tabIs_of_head (rest := []) gPow gPowType Tryd.underlying122 Tryd.underlying62 cellsU64 cellsPow hp
  obtain ⟨ps, ⟨g, t, cs, fuel, p, q, hg, ht, hvar, hd, _, _⟩, _⟩ := hs
  obtain rfl := Option.some.inj (gSyn.symm.trans hg)
  obtain rfl := Option.some.inj (gSynType.symm.trans ht)
  obtain ⟨u1, v1, hc1⟩ := iface_cell Tryd.underlying48 hd
  have cell1 := World.var?_cell gSyn hvar 0
  rw [← Array.getElem?_toList, hc1] at cell1
  obtain ⟨ps', ⟨g', t', cs', fuel', p', q', hg', ht', hvar', hd', _, _⟩, _⟩ := hr
  obtain rfl := Option.some.inj (gRan.symm.trans hg')
  obtain rfl := Option.some.inj (gRanType.symm.trans ht')
  obtain ⟨u2, v2, hc2⟩ := iface_cell Tryd.underlying48 hd'
  have cell2 := World.var?_cell gRan hvar' 0
  rw [← Array.getElem?_toList, hc2] at cell2
  obtain ⟨ps3, ⟨g3, t3, cs3, fuel3, p3, q3, hg3, ht3, hvar3, _, _, _⟩, _⟩ := hb
  have hlt : 7 < W.heap.size := by
    simp only [World.var?, gBru, Option.bind_some] at hvar3
    rcases Nat.lt_or_ge 7 W.heap.size with h | h
    · exact h
    · rw [Array.getElem?_eq_none h] at hvar3
      simp at hvar3
  obtain ⟨mm, hmm⟩ : ∃ m, W.cell? ⟨2, 0, none⟩ = some (.int .i64 m) :=
    cell_of_shapedOpen_int (t := 3) (zero := #[.int .i64 0]) hsh (by decide +kernel) (by kernel_rfl) rfl (by decide +kernel) (by kernel_rfl) Tryd.underlying3
  refine ⟨fun W' hW' => ⟨?_, ⟨u1, v1, ?_⟩, ⟨u2, v2, ?_⟩, ⟨mm, ?_⟩⟩, hlt⟩
  · unfold Lib.TabIs World.var? at tp ⊢
    rw [gPow] at tp ⊢
    simp only [Option.bind_some] at tp ⊢
    rw [hW'.block 5 (by decide)]
    exact tp
  · rw [hW'.cell (p := ⟨0, 0, none⟩) (by decide)]
    exact cell1
  · rw [hW'.cell (p := ⟨1, 0, none⟩) (by decide)]
    exact cell2
  · rw [hW'.cell (p := ⟨2, 0, none⟩) (by decide)]
    exact hmm
theorem weight_at {H : Type} {P : Program} {ts : List TypeId} {ds : List (DataW H)} {j : Nat} {t : TypeId} {d : DataW H} (hz : (DataW.weightsEach P ts ds).all (· ≤ reachBytes) = true) (ht : ts[j]? = some t) (hd : ds[j]? = some d) : ∀ m ∈ d.weights P t, m ≤ reachBytes := fun m hm => by
  have := List.all_eq_true.1 hz _ (DataW.weights_mem_each ht hd m hm)
  simpa using this

/-- a world for a witness: the settled one, the variables as their initialisers lay them -/
noncomputable abbrev settledN (os : Os) : Nat := (World.settled Tryd.prog os).heap.size
noncomputable def heldWorld (os : Os) : World := World.holding Tryd.prog os ⟨#[.cells #[.string ⟨#[105, 110, 118, 97, 108, 105, 100, 32, 115, 121, 110, 116, 97, 120]⟩] 128, .cells #[.string ⟨#[118, 97, 108, 117, 101, 32, 111, 117, 116, 32, 111, 102, 32, 114, 97, 110, 103, 101]⟩] 128], #[], []⟩
def putCells (cs : Array Value) : Obj → Obj
  | .cells _ t frozen => .cells cs t frozen
  | o => o
def bru32 : List Int := [0, 1, 28, 2, 29, 14, 24, 3, 30, 22, 20, 15, 25, 17, 4, 8, 31, 27, 13, 23, 21, 19, 16, 7, 26, 12, 18, 6, 11, 5, 10, 9]
def bru64 : List Int := [0, 1, 56, 2, 57, 49, 28, 3, 61, 58, 42, 50, 38, 29, 17, 4, 62, 47, 59, 36, 45, 43, 51, 22, 53, 39, 33, 30, 24, 18, 12, 5, 63, 55, 48, 27, 60, 41, 37, 16, 46, 35, 44, 21, 52, 32, 23, 11, 54, 26, 40, 15, 34, 20, 31, 10, 25, 14, 19, 9, 13, 8, 7, 6]
def acceptT : List Int := [128, 191, 160, 191, 128, 159, 144, 191, 128, 143] ++ List.replicate 22 0
noncomputable def laidWorld (os : Os) : World :=
  { heldWorld os with heap := (((((((heldWorld os).heap.modify 5 (putCells (Lib.pow10Tab.map (Value.int .u64)).toArray)).modify 0 (putCells #[.iface 126 (.pointer (some ⟨settledN os, 0, none⟩))])).modify
      1 (putCells #[.iface 126 (.pointer (some ⟨settledN os + 1, 0, none⟩))])).modify 6 (putCells (bru32.map (Value.int .u8)).toArray)).modify 7 (putCells (bru64.map (Value.int .u8)).toArray)).modify 3 (putCells (Go.Pinned.utf8FirstZ.map fun (n : Nat) => Value.int .u8 (n : Int)).toArray)).modify 4 (putCells (acceptT.map (Value.int .u8)).toArray) }
end Go.Proofs.YthbdhlcimgiemaaDoor
