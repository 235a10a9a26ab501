/- Contracts over the codec's program, each for all bytes: Decode. -/
import Derived.Test.YtdmaopfaeigelaaGreatDoorCodValue
import Derived.Test.YtdmaopfaeigelaaGreatDoorCodGet
import Derived.Tactics
import Derived.Tactics2
import Derived.Defers
import Derived.Recover
import Derived.Laws.Pointers
namespace Go.Proofs.YtdmaopfaeigelaaGreatDoor
set_option linter.unusedSimpArgs false
set_option linter.unusedVariables false
open Go.RowKit

def decF (bs : List UInt8) : Option Va := match valP 16 bs with
  | some (V, []) => some V
  | _ => none

/-- the world in which Decode's results lie: a value at N, an error behind it -/
abbrev set6 (W : World) (N : Nat) (x0 x1 x2 x3 x4 x5 : Value) : World :=
  (((((W.setCell ⟨N, 0, none⟩ x0).setCell ⟨N, 1, none⟩ x1).setCell ⟨N, 2, none⟩ x2).setCell ⟨N, 3, none⟩ x3).setCell ⟨N, 4, none⟩ x4).setCell ⟨N + 1, 0, none⟩ x5
theorem set6_below {W w : World} {N : Nat} (hb : Below w.heap.size w W) (hN : w.heap.size ≤ N) (x0 x1 x2 x3 x4 x5 : Value) : Below w.heap.size w (set6 W N x0 x1 x2 x3 x4 x5) :=
  (((((hb.setCell hN _).setCell hN _).setCell hN _).setCell hN _).setCell hN _).setCell (by show w.heap.size ≤ N + 1; omega) _

set_option maxHeartbeats 1000000 in
theorem catch_dead (N : Nat) (w : World) (y0 y1 y2 y3 y4 y5 : Value) (u : TypeId) (pv : Value) (older : List PanicEntry)
    (h0 : w.cell? ⟨N, 0, none⟩ = some y0) (h1 : w.cell? ⟨N, 1, none⟩ = some y1) (h2 : w.cell? ⟨N, 2, none⟩ = some y2) (h3 : w.cell? ⟨N, 3, none⟩ = some y3) (h4 : w.cell? ⟨N, 4, none⟩ = some y4) (h5 : w.cell? ⟨N + 1, 0, none⟩ = some y5)
    (z0 : w.frozen? ⟨N, 0, none⟩ = false) (z1 : w.frozen? ⟨N, 1, none⟩ = false) (z2 : w.frozen? ⟨N, 2, none⟩ = false) (z3 : w.frozen? ⟨N, 3, none⟩ = false) (z4 : w.frozen? ⟨N, 4, none⟩ = false) (z5 : w.frozen? ⟨N + 1, 0, none⟩ = false) :
    CallsD Tryz.prog 58 #[.pointer (some ⟨N, 0, none⟩), .pointer (some ⟨N + 1, 0, none⟩)] (.panicking ({ v := .iface u pv, recovered := false } :: older)) w fun e u' w' =>
      e = .returned (.tuple #[]) ∧ u' = .panicking ({ v := .iface u pv, recovered := true } :: older) ∧ w' = set6 w N (.int .i64 0) (.int .i64 0) (.string ⟨#[]⟩) (.slice none 0 0) (.slice none 0 0) (.int .i64 20) := by
  refine callsD_of_wpS Tryz.func58 rfl fun c₀ cs hu => ?_
  apply wpS_seq
  apply wpS_region
  simp [wpOpsS, go_sem, recoverD, hu, Tryz.ntmps58, Exit.thenS]
  refine wpS_cond (t := true) (by simp [Act.eval, Array.replicate]) ?_
  simp only [if_true]
  apply wpS_region
  simp [wpOpsS, go_sem, h0, h1, h2, h3, h4, h5, z0, z1, z2, z3, z4, z5, bodyPostS, results, Tryz.results58]

theorem catch_idle (N : Nat) (w : World) :
    CallsD Tryz.prog 58 #[.pointer (some ⟨N, 0, none⟩), .pointer (some ⟨N + 1, 0, none⟩)] .returning w fun e u' w' => e = .returned (.tuple #[]) ∧ u' = .returning ∧ w' = w := by
  refine callsD_of_wpS Tryz.func58 rfl fun c₀ cs hu => ?_
  apply wpS_seq
  apply wpS_region
  simp [wpOpsS, go_sem, recoverD, hu, Tryz.ntmps58, Exit.thenS]
  refine wpS_cond (t := false) (by simp [Act.eval, Array.replicate]) ?_
  simp only [Bool.false_eq_true, if_false]
  refine wpS_of_wp (wp_skip ?_)
  cases c₀
  simp_all [bodyPostS, results, Tryz.results58]

abbrev set5w (W : World) (N : Nat) (x0 x1 x2 x3 x4 : Value) : World := ((((W.setCell ⟨N, 0, none⟩ x0).setCell ⟨N, 1, none⟩ x1).setCell ⟨N, 2, none⟩ x2).setCell ⟨N, 3, none⟩ x3).setCell ⟨N, 4, none⟩ x4
/-- bytes that came in -/
def RawAt (w : World) (A : Option Addr) (bs : List UInt8) : Prop :=
  ∀ (i : Nat) (b : UInt8), bs[i]? = some b → ∃ g o, A = some ⟨g, o, none⟩ ∧ w.cell? ⟨g, o + i, none⟩ = some (.int .u8 (b.toNat : Int))
theorem RawAt.later {w W : World} {A : Option Addr} {bs : List UInt8} (h : RawAt w A bs) (hb : Below w.heap.size w W) : RawAt W A bs := by
  intro i b hi
  obtain ⟨g, o, e, hc⟩ := h i b hi
  exact ⟨g, o, e, (hb.cell (World.block_lt_of_cell? w _ hc)).trans hc⟩
theorem RawAt.rd {w W : World} {A : Option Addr} {bs : List UInt8} {rb : Nat} (h : RawAt w A bs) (hA : A = none ∧ bs = [] ∨ ∃ g o, A = some ⟨g, o, none⟩ ∧ g < w.heap.size) (hl : bs.length ≤ 1000000000)
    (hb : Below w.heap.size w W) (hrb : w.heap.size ≤ rb) (hh : W.heap[rb]? = some (.cells #[.slice A bs.length bs.length] 96 (0, 0))) : RdAt W rb bs := by
  refine ⟨A, hA.imp id (fun ⟨g, o, e, hg⟩ => ⟨g, o, e, by omega⟩), hh, fun i b hi => ?_, hl⟩
  obtain ⟨g, o, e, hc⟩ := h i b hi
  have hg := World.block_lt_of_cell? w _ hc
  exact ⟨g, o, e, Nat.lt_of_lt_of_le hg hrb, (hb.cell (p := ⟨g, o + i, none⟩) hg).trans hc⟩

/-- how Decode ends -/
def Decoded (w : World) (r : Option Va) (e : Ending) (w' : World) : Prop :=
  (match r with
    | some V => ∃ v, e = .returned (.tuple #[v, .int .i64 0]) ∧ VNew w V v w'
    | none => e = .returned (.tuple #[zeroV, .int .i64 20])) ∧ Below w.heap.size w w'

theorem box_put {w : World} {N i : Nat} {v : Value} {cs : Array Value} {t : TypeId} {fz : Nat × Nat} (h : w.heap[N]? = some (.cells cs t fz)) : (w.setCell ⟨N, i, none⟩ v).heap[N]? = some (.cells (cs.setIfInBounds i v) t fz) := by
  have hlt := lt_of_block h
  have h' : w.heap[N] = .cells cs t fz := by simpa [Array.getElem?_eq_getElem hlt] using h
  show (w.heap.modify N _)[N]? = _
  rw [Array.getElem?_eq_getElem (by simpa using hlt), Array.getElem_modify_self, h']
  rfl
theorem set5_box {W : World} {N : Nat} {y0 y1 y2 y3 y4 : Value} {t : TypeId} {fz : Nat × Nat} (h : W.heap[N]? = some (.cells #[y0, y1, y2, y3, y4] t fz)) (x0 x1 x2 x3 x4 : Value) : (set5w W N x0 x1 x2 x3 x4).heap[N]? = some (.cells #[x0, x1, x2, x3, x4] t fz) :=
  box_put (box_put (box_put (box_put (box_put h))))
theorem three_new (w : World) (a b c : Obj) : (((w.alloc a).alloc b).alloc c).heap[w.heap.size + 2]? = some c := by
  have e : w.heap.size + 2 = ((w.alloc a).alloc b).heap.size := by simp
  rw [e]
  exact heap_alloc_new _ _
theorem three_snd (w : World) (a b c : Obj) : (((w.alloc a).alloc b).alloc c).heap[w.heap.size + 1]? = some b := by
  have e : w.heap.size + 1 = (w.alloc a).heap.size := by simp
  rw [heap_alloc_old _ _ (by simp), e]
  exact heap_alloc_new _ _
theorem three_fst (w : World) (a b c : Obj) : (((w.alloc a).alloc b).alloc c).heap[w.heap.size]? = some a := by
  rw [heap_alloc_old _ _ (by simp; omega), heap_alloc_old _ _ (by simp)]
  exact heap_alloc_new _ _
theorem three_below (w : World) (a b c : Obj) : Below w.heap.size w (((w.alloc a).alloc b).alloc c) :=
  (((Below.refl _ _).alloc (Nat.le_refl _) a).alloc (by simp) b).alloc (by simp; omega) c

set_option maxRecDepth 100000 in
set_option maxHeartbeats 4000000 in
theorem decode_dead_some (hv : Hid (ValIs 16)) (g o c n : Nat) (bs : List UInt8) (w : World) (hE : Env w) (hw : gTop ≤ w.heap.size) (hr : RawAt w (some ⟨g, o, none⟩) bs) (hn : bs.length = n) (hg : g < w.heap.size) (hc : n ≤ c) (hc' : c ≤ 9223372036854775807) (hl : n ≤ 1000000000) (hres : valP 16 bs = none) :
    Calls Tryz.prog 27 #[.slice (some ⟨g, o, none⟩) n c] w (Decoded w none) := by
  have hmf : ∀ (fn : Fn) (first cap : Array Value) (w : World), (Instr.makeFunc fn first cap).run Tryz.prog w = .ok (.func fn first cap) w := fun _ _ _ _ => rfl
  have HV : Hid (∀ W, Below w.heap.size w W → W.heap[w.heap.size + 2]? = some (.cells #[.slice (some ⟨g, o, none⟩) n n] 96 (0, 0)) → Calls Tryz.prog 59 #[.pointer (some ⟨w.heap.size + 2, 0, none⟩), .int .i64 16] W (Dead (w.heap.size + 2) W)) := fun W hW hh => by
    have := (unhide hv) W (w.heap.size + 2) bs (hr.rd (.inr ⟨g, o, rfl, hg⟩) (by omega) hW (by omega) (by rw [hn]; exact hh)) (hE.along (hW.mono hw)) (by omega)
    rw [hres] at this
    exact this
  clear hr hE hres hv
  have hn0 : (0 : Int) ≤ (n : Int) := Int.natCast_nonneg _
  have hnn : (n : Int) ≤ (n : Int) := Int.le_refl _
  have hnc : (n : Int) ≤ (c : Int) := by omega
  go_enter_defers Tryz.func27, Tryz.ntmps27
  go_wp2_with fail
  refine ((unhide HV) _ (three_below _ _ _ _) (three_new _ _ _ _)).mono ?_
  rintro e w3 ⟨rfl, hg3⟩
  have hN := (hg3.block w.heap.size (by simp; omega) (by simp)).trans (three_fst _ _ _ _)
  have hM := (hg3.block (w.heap.size + 1) (by simp) (by simp)).trans (three_snd _ _ _ _)
  have hB3 : Below w.heap.size w w3 := (three_below w _ _ _).grown hg3 (by simp; omega) (fun k hk => by injection hk with hk; omega)
  go_wp2_with fail
  refine leaves_cons (f := 58) (args := #[.pointer (some ⟨w.heap.size, 0, none⟩), .pointer (some ⟨w.heap.size + 1, 0, none⟩)]) (by simp) (by simp [go_sem]) ?_
  refine (catch_dead w.heap.size w3 _ _ _ _ _ _ _ _ _ (boxAt hN 0).1 (boxAt hN 1).1 (boxAt hN 2).1 (boxAt hN 3).1 (boxAt hN 4).1 (boxAt hM 0).1 (boxAt hN 0).2 (boxAt hN 1).2 (boxAt hN 2).2 (boxAt hN 3).2 (boxAt hN 4).2 (boxAt hM 0).2).mono ?_
  rintro e u' w'' ⟨rfl, rfl, rfl⟩
  have f0 := (boxAt hN 0).1; have f1 := (boxAt hN 1).1; have f2 := (boxAt hN 2).1; have f3 := (boxAt hN 3).1; have f4 := (boxAt hN 4).1; have f5 := (boxAt hM 0).1
  simp at f0 f1 f2 f3 f4 f5
  refine ⟨.tuple #[zeroV, .int .i64 20], ?_, rfl, set6_below hB3 (Nat.le_refl _) _ _ _ _ _ _⟩
  simp [results, Tryz.results27, go_sem, f0, f1, f2, f3, f4, f5]

set_option maxRecDepth 100000 in
set_option maxHeartbeats 4000000 in
theorem decode_dead_none (hv : Hid (ValIs 16)) (w : World) (hE : Env w) (hw : gTop ≤ w.heap.size)  :
    Calls Tryz.prog 27 #[.slice none 0 0] w (Decoded w none) := by
  have hmf : ∀ (fn : Fn) (first cap : Array Value) (w : World), (Instr.makeFunc fn first cap).run Tryz.prog w = .ok (.func fn first cap) w := fun _ _ _ _ => rfl
  have HV : Hid (∀ W, Below w.heap.size w W → W.heap[w.heap.size + 2]? = some (.cells #[.slice none 0 0] 96 (0, 0)) → Calls Tryz.prog 59 #[.pointer (some ⟨w.heap.size + 2, 0, none⟩), .int .i64 16] W (Dead (w.heap.size + 2) W)) := fun W hW hh => by
    exact (unhide hv) W (w.heap.size + 2) [] (RawAt.rd (w := w) (A := none) (bs := []) (fun i b h => by simp at h) (.inl ⟨rfl, rfl⟩) (by decide) hW (by omega) hh) (hE.along (hW.mono hw)) (by omega)
  clear hE hv
  go_enter_defers Tryz.func27, Tryz.ntmps27
  go_wp2_with fail
  refine ((unhide HV) _ (three_below _ _ _ _) (three_new _ _ _ _)).mono ?_
  rintro e w3 ⟨rfl, hg3⟩
  have hN := (hg3.block w.heap.size (by simp; omega) (by simp)).trans (three_fst _ _ _ _)
  have hM := (hg3.block (w.heap.size + 1) (by simp) (by simp)).trans (three_snd _ _ _ _)
  have hB3 : Below w.heap.size w w3 := (three_below w _ _ _).grown hg3 (by simp; omega) (fun k hk => by injection hk with hk; omega)
  go_wp2_with fail
  refine leaves_cons (f := 58) (args := #[.pointer (some ⟨w.heap.size, 0, none⟩), .pointer (some ⟨w.heap.size + 1, 0, none⟩)]) (by simp) (by simp [go_sem]) ?_
  refine (catch_dead w.heap.size w3 _ _ _ _ _ _ _ _ _ (boxAt hN 0).1 (boxAt hN 1).1 (boxAt hN 2).1 (boxAt hN 3).1 (boxAt hN 4).1 (boxAt hM 0).1 (boxAt hN 0).2 (boxAt hN 1).2 (boxAt hN 2).2 (boxAt hN 3).2 (boxAt hN 4).2 (boxAt hM 0).2).mono ?_
  rintro e u' w'' ⟨rfl, rfl, rfl⟩
  have f0 := (boxAt hN 0).1; have f1 := (boxAt hN 1).1; have f2 := (boxAt hN 2).1; have f3 := (boxAt hN 3).1; have f4 := (boxAt hN 4).1; have f5 := (boxAt hM 0).1
  simp at f0 f1 f2 f3 f4 f5
  refine ⟨.tuple #[zeroV, .int .i64 20], ?_, rfl, set6_below hB3 (Nat.le_refl _) _ _ _ _ _ _⟩
  simp [results, Tryz.results27, go_sem, f0, f1, f2, f3, f4, f5]

set_option maxRecDepth 100000 in
set_option maxHeartbeats 4000000 in
theorem decode_ok (hv : Hid (ValIs 16)) (g o c n : Nat) (bs : List UInt8) (w : World) (hE : Env w) (hw : gTop ≤ w.heap.size) (hr : RawAt w (some ⟨g, o, none⟩) bs) (hn : bs.length = n) (hg : g < w.heap.size) (hc : n ≤ c) (hc' : c ≤ 9223372036854775807) (hl : n ≤ 1000000000) (V : Va) (hres : valP 16 bs = some (V, [])) :
    Calls Tryz.prog 27 #[.slice (some ⟨g, o, none⟩) n c] w (Decoded w (some V)) := by
  have hmf : ∀ (fn : Fn) (first cap : Array Value) (w : World), (Instr.makeFunc fn first cap).run Tryz.prog w = .ok (.func fn first cap) w := fun _ _ _ _ => rfl
  have HV : Hid (∀ W, Below w.heap.size w W → W.heap[w.heap.size + 2]? = some (.cells #[.slice (some ⟨g, o, none⟩) n n] 96 (0, 0)) → Calls Tryz.prog 59 #[.pointer (some ⟨w.heap.size + 2, 0, none⟩), .int .i64 16] W (Took (w.heap.size + 2) [] (VNew W V) W)) := fun W hW hh => by
    have := (unhide hv) W (w.heap.size + 2) bs (hr.rd (.inr ⟨g, o, rfl, hg⟩) (by omega) hW (by omega) (by rw [hn]; exact hh)) (hE.along (hW.mono hw)) (by omega)
    rw [hres] at this
    exact this
  clear hr hE hres hv
  have hn0 : (0 : Int) ≤ (n : Int) := Int.natCast_nonneg _
  have hnn : (n : Int) ≤ (n : Int) := Int.le_refl _
  have hnc : (n : Int) ≤ (c : Int) := by omega
  go_enter_defers Tryz.func27, Tryz.ntmps27
  go_wp2_with fail
  refine ((unhide HV) _ (three_below _ _ _ _) (three_new _ _ _ _)).mono ?_
  rintro e w3 ⟨v, rfl, hv, hr3, hg3⟩
  obtain ⟨e1, e2, e3, e4, e5, e6, e7, e8, e9, rfl⟩ := VIn.form hv
  have hN := (hg3.block w.heap.size (by simp; omega) (by simp)).trans (three_fst _ _ _ _)
  have hM := (hg3.block (w.heap.size + 1) (by simp) (by simp)).trans (three_snd _ _ _ _)
  have hB3 : Below w.heap.size w w3 := (three_below w _ _ _).grown hg3 (by simp; omega) (fun k hk => by injection hk with hk; omega)
  have f0 := (boxAt hN 0).1; have f1 := (boxAt hN 1).1; have f2 := (boxAt hN 2).1; have f3 := (boxAt hN 3).1; have f4 := (boxAt hN 4).1; have f5 := (boxAt hM 0).1
  have g0 := (boxAt hN 0).2; have g1 := (boxAt hN 1).2; have g2 := (boxAt hN 2).2; have g3 := (boxAt hN 3).2; have g4 := (boxAt hN 4).2; have g5 := (boxAt hM 0).2
  simp at f0 f1 f2 f3 f4 f5
  obtain ⟨A3, _, hc3, hf3, _, _, _⟩ := hr3.open
  simp only [List.length_nil] at hc3
  have hs3 : w.heap.size + 2 < w3.heap.size := by have := hg3.size; simp at this; omega
  have HV3 := hide hv; have HB3 := hide hB3; have HN := hide hN; have HM := hide hM
  clear hv hr3 hg3 hN hM hB3
  go_wp2_with fail
  refine leaves_cons (f := 58) (args := #[.pointer (some ⟨w.heap.size, 0, none⟩), .pointer (some ⟨w.heap.size + 1, 0, none⟩)]) (by simp) (by simp [go_sem]) ?_
  refine (catch_idle w.heap.size _).mono ?_
  rintro e u' w'' ⟨rfl, rfl, rfl⟩
  refine ⟨.tuple #[vaV e1 e2 e3 e4 e5 e6 e7 e8 e9, .int .i64 0], ?_, ⟨_, rfl, ?_⟩, ?_⟩
  · have hF : ((set5w (set5w w3 w.heap.size (.int .i64 e1) (.int .i64 e2) (.string e3) (.slice e4 e5 e6) (.slice e7 e8 e9)) w.heap.size (.int .i64 e1) (.int .i64 e2) (.string e3) (.slice e4 e5 e6) (.slice e7 e8 e9)).setCell ⟨w.heap.size + 1, 0, none⟩ (.int .i64 0)).heap[w.heap.size]? = some (.cells #[.int .i64 e1, .int .i64 e2, .string e3, .slice e4 e5 e6, .slice e7 e8 e9] 66 (0, 0)) := by
      rw [Below.heap_setCell _ _ _ _ (by show w.heap.size ≠ w.heap.size + 1; omega)]
      exact set5_box (set5_box (unhide HN) _ _ _ _ _) _ _ _ _ _
    have hG : ((set5w (set5w w3 w.heap.size (.int .i64 e1) (.int .i64 e2) (.string e3) (.slice e4 e5 e6) (.slice e7 e8 e9)) w.heap.size (.int .i64 e1) (.int .i64 e2) (.string e3) (.slice e4 e5 e6) (.slice e7 e8 e9)).setCell ⟨w.heap.size + 1, 0, none⟩ (.int .i64 0)).heap[w.heap.size + 1]? = some (.cells #[.int .i64 0] 48 (0, 0)) := by
      refine box_put (i := 0) (v := .int .i64 0) (cs := #[.int .i64 0]) ?_
      rw [set5_block (by omega), set5_block (by omega)]
      exact unhide HM
    revert hF hG
    generalize ((set5w (set5w w3 w.heap.size (.int .i64 e1) (.int .i64 e2) (.string e3) (.slice e4 e5 e6) (.slice e7 e8 e9)) w.heap.size (.int .i64 e1) (.int .i64 e2) (.string e3) (.slice e4 e5 e6) (.slice e7 e8 e9)).setCell ⟨w.heap.size + 1, 0, none⟩ (.int .i64 0)) = F
    intro hF hG
    have p0 := (boxAt hF 0).1; have p1 := (boxAt hF 1).1; have p2 := (boxAt hF 2).1; have p3 := (boxAt hF 3).1; have p4 := (boxAt hF 4).1; have p5 := (boxAt hG 0).1
    simp at p0 p1 p2 p3 p4 p5
    simp [results, Tryz.results27, go_sem, p0, p1, p2, p3, p4, p5]
  · refine VIn.keep (unhide HV3) (fun b hb => ?_) fun b hb => ?_
    · simp at hb
      refine ⟨by omega, ?_⟩
      show b < ((set5w (set5w w3 w.heap.size _ _ _ _ _) w.heap.size _ _ _ _ _).setCell _ _).heap.size
      rw [show ∀ (W : World) a v, (W.setCell a v).heap.size = W.heap.size from fun W a v => by simp [World.setCell], set5_size, set5_size]
      exact hb.2
    · simp at hb
      show ((set5w (set5w w3 w.heap.size _ _ _ _ _) w.heap.size _ _ _ _ _).setCell _ _).heap[b]? = _
      rw [Below.heap_setCell _ _ _ _ (by show b ≠ w.heap.size + 1; omega), set5_block (by omega), set5_block (by omega)]
  · exact ((unhide HB3).trans ((below5 (Nat.le_refl _) _ _ _ _ _).trans (below5 (Nat.le_refl _) _ _ _ _ _))).setCell (by show w.heap.size ≤ w.heap.size + 1; omega) _
set_option maxRecDepth 100000 in
set_option maxHeartbeats 4000000 in
theorem decode_more (hv : Hid (ValIs 16)) (g o c n : Nat) (bs : List UInt8) (w : World) (hE : Env w) (hw : gTop ≤ w.heap.size) (hr : RawAt w (some ⟨g, o, none⟩) bs) (hn : bs.length = n) (hg : g < w.heap.size) (hc : n ≤ c) (hc' : c ≤ 9223372036854775807) (hl : n ≤ 1000000000) (V : Va) (b1 : UInt8) (r1 : List UInt8) (hres : valP 16 bs = some (V, b1 :: r1)) :
    Calls Tryz.prog 27 #[.slice (some ⟨g, o, none⟩) n c] w (Decoded w none) := by
  have hmf : ∀ (fn : Fn) (first cap : Array Value) (w : World), (Instr.makeFunc fn first cap).run Tryz.prog w = .ok (.func fn first cap) w := fun _ _ _ _ => rfl
  have HV : Hid (∀ W, Below w.heap.size w W → W.heap[w.heap.size + 2]? = some (.cells #[.slice (some ⟨g, o, none⟩) n n] 96 (0, 0)) → Calls Tryz.prog 59 #[.pointer (some ⟨w.heap.size + 2, 0, none⟩), .int .i64 16] W (Took (w.heap.size + 2) (b1 :: r1) (VNew W V) W)) := fun W hW hh => by
    have := (unhide hv) W (w.heap.size + 2) bs (hr.rd (.inr ⟨g, o, rfl, hg⟩) (by omega) hW (by omega) (by rw [hn]; exact hh)) (hE.along (hW.mono hw)) (by omega)
    rw [hres] at this
    exact this
  clear hr hE hres hv
  have hn0 : (0 : Int) ≤ (n : Int) := Int.natCast_nonneg _
  have hnn : (n : Int) ≤ (n : Int) := Int.le_refl _
  have hnc : (n : Int) ≤ (c : Int) := by omega
  go_enter_defers Tryz.func27, Tryz.ntmps27
  go_wp2_with fail
  refine ((unhide HV) _ (three_below _ _ _ _) (three_new _ _ _ _)).mono ?_
  rintro e w3 ⟨v, rfl, hv, hr3, hg3⟩
  obtain ⟨e1, e2, e3, e4, e5, e6, e7, e8, e9, rfl⟩ := VIn.form hv
  have hN := (hg3.block w.heap.size (by simp; omega) (by simp)).trans (three_fst _ _ _ _)
  have hM := (hg3.block (w.heap.size + 1) (by simp) (by simp)).trans (three_snd _ _ _ _)
  have hB3 : Below w.heap.size w w3 := (three_below w _ _ _).grown hg3 (by simp; omega) (fun k hk => by injection hk with hk; omega)
  have f0 := (boxAt hN 0).1; have f1 := (boxAt hN 1).1; have f2 := (boxAt hN 2).1; have f3 := (boxAt hN 3).1; have f4 := (boxAt hN 4).1; have f5 := (boxAt hM 0).1
  have g0 := (boxAt hN 0).2; have g1 := (boxAt hN 1).2; have g2 := (boxAt hN 2).2; have g3 := (boxAt hN 3).2; have g4 := (boxAt hN 4).2; have g5 := (boxAt hM 0).2
  simp at f0 f1 f2 f3 f4 f5
  obtain ⟨A3, _, hc3, hf3, _, _, _⟩ := hr3.open
  have hpos : decide ((0 : Int) < ((b1 :: r1).length : Int)) = true := decide_eq_true (by simp)
  have hposN : 0 < (b1 :: r1).length := by simp
  have hposD : decide (0 < (b1 :: r1).length) = true := decide_eq_true hposN
  generalize (b1 :: r1).length = m3 at hc3 hpos hposN hposD
  have HV3 := hide hv; have HB3 := hide hB3; have HN := hide hN; have HM := hide hM
  have hs3 : w.heap.size + 2 < w3.heap.size := by have := hg3.size; simp at this; omega
  clear hv hr3 hg3 hN hM hB3
  go_wp2_with fail
  refine leaves_cons (f := 58) (args := #[.pointer (some ⟨w.heap.size, 0, none⟩), .pointer (some ⟨w.heap.size + 1, 0, none⟩)]) (by simp) (by simp [go_sem]) ?_
  have hN5 := set5_box (unhide HN) (.int .i64 e1) (.int .i64 e2) (.string e3) (.slice e4 e5 e6) (.slice e7 e8 e9)
  have hM5 : (set5w w3 w.heap.size (.int .i64 e1) (.int .i64 e2) (.string e3) (.slice e4 e5 e6) (.slice e7 e8 e9)).heap[w.heap.size + 1]? = some (.cells #[.int .i64 0] 48 (0, 0)) := by
    rw [set5_block (by omega)]
    exact unhide HM
  have hB5 : Below w.heap.size w (set5w w3 w.heap.size (.int .i64 e1) (.int .i64 e2) (.string e3) (.slice e4 e5 e6) (.slice e7 e8 e9)) := (unhide HB3).trans (below5 (Nat.le_refl _) _ _ _ _ _)
  change CallsD _ _ _ _ (set5w w3 w.heap.size (.int .i64 e1) (.int .i64 e2) (.string e3) (.slice e4 e5 e6) (.slice e7 e8 e9)) _
  generalize (set5w w3 w.heap.size (.int .i64 e1) (.int .i64 e2) (.string e3) (.slice e4 e5 e6) (.slice e7 e8 e9)) = F at hN5 hM5 hB5 ⊢
  refine (catch_dead w.heap.size F _ _ _ _ _ _ _ _ _ (boxAt hN5 0).1 (boxAt hN5 1).1 (boxAt hN5 2).1 (boxAt hN5 3).1 (boxAt hN5 4).1 (boxAt hM5 0).1 (boxAt hN5 0).2 (boxAt hN5 1).2 (boxAt hN5 2).2 (boxAt hN5 3).2 (boxAt hN5 4).2 (boxAt hM5 0).2).mono ?_
  rintro e u' w'' ⟨rfl, rfl, rfl⟩
  have p0 := (boxAt hN5 0).1; have p1 := (boxAt hN5 1).1; have p2 := (boxAt hN5 2).1; have p3 := (boxAt hN5 3).1; have p4 := (boxAt hN5 4).1; have p5 := (boxAt hM5 0).1
  simp at p0 p1 p2 p3 p4 p5
  refine ⟨.tuple #[zeroV, .int .i64 20], ?_, rfl, set6_below hB5 (Nat.le_refl _) _ _ _ _ _ _⟩
  simp [results, Tryz.results27, go_sem, p0, p1, p2, p3, p4, p5]

theorem decode_any (A : Option Addr) (c : Nat) (bs : List UInt8) (w : World) (hE : Env w) (hw : gTop ≤ w.heap.size) (hr : RawAt w A bs) (hA : A = none ∧ bs = [] ∧ c = 0 ∨ ∃ g o, A = some ⟨g, o, none⟩ ∧ g < w.heap.size) (hc : bs.length ≤ c) (hc' : c ≤ 9223372036854775807) (hl : bs.length ≤ 1000000000) :
    Calls Tryz.prog 27 #[.slice A bs.length c] w (Decoded w (decF bs)) := by
  have hv : Hid (ValIs 16) := value_any 16 (by decide)
  rcases hA with ⟨rfl, rfl, rfl⟩ | ⟨g, o, rfl, hg⟩
  · exact decode_dead_none hv w hE hw
  · unfold decF
    cases hq : valP 16 bs with
    | none => exact decode_dead_some hv g o c _ bs w hE hw hr rfl hg hc hc' hl hq
    | some p =>
      obtain ⟨V, q⟩ := p
      cases q with
      | nil => exact decode_ok hv g o c _ bs w hE hw hr rfl hg hc hc' hl V hq
      | cons b1 r1 => exact decode_more hv g o c _ bs w hE hw hr rfl hg hc hc' hl V b1 r1 hq
end Go.Proofs.YtdmaopfaeigelaaGreatDoor
