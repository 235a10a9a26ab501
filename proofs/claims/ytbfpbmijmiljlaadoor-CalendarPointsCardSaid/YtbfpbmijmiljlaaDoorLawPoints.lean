/- The walk of the law CalendarPoints. -/
import Derived.Test.YtbfpbmijmiljlaaDoorLawMeets
import Derived.Test.YtbfpbmijmiljlaaDoorPtsMath
import Derived.Deep.RegionHeld3
import Derived.Deep.AppendLies
import Derived.Deep.QuietTactic
import Derived.BigQuiet
import Derived.IntWalk
namespace Go.Proofs.YtbfpbmijmiljlaaDoor
set_option linter.unusedSimpArgs false
set_option linter.unusedVariables false
open Go.RowKit Go.LawClose

theorem infoInt : (Tryd.prog.info? 3).map (fun i => (i.zero, i.size, i.bytes)) = some (some (.int .i64 0), 1, 8) := by kernel_rfl

set_option maxRecDepth 100000 in
set_option maxHeartbeats 1000000 in
theorem points_long (n at_ : Int) (A : Option Addr) (len cap : Nat) (w : World) (HT : Hid (Tab w)) (hl : 40 < len) (hl2 : len ≤ 9223372036854775807) :
    Calls Tryd.prog 8 #[.slice A len cap, .int .i64 n, .int .u64 at_] w (LawOk w) := by
  have hd : decide ((40 : Int) < len) = true := by simp; omega
  go_enter Tryd.func8, Tryd.ntmps8
  go_wp2_with fail
  refine (sane_any _ (unhide HT)).mono ?_; rintro e w1 ⟨rfl, hb1⟩
  have HB1 := hide hb1; clear hb1
  go_wp2_with fail
  go_ret
  exact ⟨rfl, unhide HB1⟩

set_option maxRecDepth 100000 in
set_option maxHeartbeats 1000000 in
theorem points_bad (n at_ : Int) (A : Option Addr) (cap len : Nat) (l : List CalI.Iv) (w : World) (HT : Hid (Tab w)) (HL : Hid (l.length = len)) (hl : len ≤ 40) (HI : Hid (IvAt w A l)) (HO : Hid (allOk l = false)) :
    Calls Tryd.prog 8 #[.slice A len cap, .int .i64 n, .int .u64 at_] w (LawOk w) := by
  have hd : decide ((40 : Int) < len) = false := by simp; omega
  have hU := fun (W : World) (hW : IvAt W A l) => (unhide HL) ▸ union_bad A cap l W hW (by rw [unhide HL]; omega) (unhide HO)
  have HU := hide hU; clear hU
  go_enter Tryd.func8, Tryd.ntmps8
  go_wp2_with fail
  refine (sane_any _ (unhide HT)).mono ?_; rintro e w1 ⟨rfl, hb1⟩
  have HB1 := hide hb1; clear hb1
  go_wp2_with fail
  refine ((unhide HU) _ ((unhide HI).below (unhide HB1))).mono ?_; rintro e w2 ⟨rfl, hb2⟩
  have HB2 := hide (thenB (unhide HB1) hb2); clear hb2
  go_wp2_with fail
  go_ret
  exact ⟨rfl, unhide HB2⟩

theorem keepP {w5 wp wn : World} {p : Addr} {v : Value} (h : wp.cell? p = some v ∧ Below w5.heap.size w5 wp) (hb : Below wp.heap.size wp wn) : wn.cell? p = some v ∧ Below w5.heap.size w5 wn :=
  ⟨(hb.cell (World.block_lt_of_cell? wp p h.1)).trans h.1, h.2.trans (hb.mono h.2.size)⟩
theorem keepP2 {w5 wp wn : World} {p p' : Addr} {v v' : Value} (h : (wp.cell? p = some v ∧ wp.cell? p' = some v') ∧ Below w5.heap.size w5 wp) (hb : Below wp.heap.size wp wn) : (wn.cell? p = some v ∧ wn.cell? p' = some v') ∧ Below w5.heap.size w5 wn :=
  ⟨⟨(keepP ⟨h.1.1, h.2⟩ hb).1, (keepP ⟨h.1.2, h.2⟩ hb).1⟩, h.2.trans (hb.mono h.2.size)⟩
theorem keepP3 {w5 wp wn : World} {p p' p'' : Addr} {v v' v'' : Value} (h : (wp.cell? p = some v ∧ wp.cell? p' = some v' ∧ wp.cell? p'' = some v'') ∧ Below w5.heap.size w5 wp) (hb : Below wp.heap.size wp wn) : (wn.cell? p = some v ∧ wn.cell? p' = some v' ∧ wn.cell? p'' = some v'') ∧ Below w5.heap.size w5 wn :=
  ⟨⟨(keepP ⟨h.1.1, h.2⟩ hb).1, (keepP ⟨h.1.2.1, h.2⟩ hb).1, (keepP ⟨h.1.2.2, h.2⟩ hb).1⟩, h.2.trans (hb.mono h.2.size)⟩
theorem step_append_at {P : Program} (w : World) {ops : Array Oper} {o : Oper} {a : Act} {K : Act → World → Prop} {Q : Exit → Act → World → Prop} {E : Prop} (hgd : o.guard = none) (s x : Operand) (t : TypeId)
    (ho : o.op = .call { callee := .builtin .append, args := #[s, x], argTypes := #[t, t] })
    (base : Nat) (e : TypeId) (i : TypeInfo) (z : Value) (size bytes : Nat) (ht : P.underlying t = some (.slice e)) (hi : P.info? e = some i) (hz : i.zero = some z)
    (hsize : i.size = size) (hby : i.bytes = bytes) (hzs : z.cells.size = size) (hsz : 0 < size)
    (v : Value) (n : Nat) (xs : List Value) (hs : a.eval s = v) (hown : w.ownsRow base e size v n xs)
    (ad : Addr) (m c : Nat) (news : List Value) (hx : a.eval x = .slice (some ad) m c) (hl : news.length = m * size) (hnews : ∀ j u, news[j]? = some u → w.cell? (ad.add j) = some u) (h1 : ∀ u ∈ news, u.oneCell' = true)
    (h63 : n + m ≤ maxLen) (hbytes : (n + m) * bytes ≤ 140737488355328) (hbase : base ≤ w.heap.size)
    (h : ∀ v' w', w'.ownsRow base e size v' (n + m) (xs ++ news) → w.grownBy w' v.ownBlock → (∀ k, v.ownBlock = some k → base ≤ k ∧ k < w.heap.size) → (v'.ownBlock = v.ownBlock ∨ v'.ownBlock = some w.heap.size) → K (a.put o.dst v') w') :
    if Region.wanted o (yielded ops a.tmps) = true then Oper.wp P o a w K Q else E := by
  have hw : Region.wanted o (yielded ops a.tmps) = true := by simp [Region.wanted, hgd]
  rw [if_pos hw]
  obtain ⟨v', w', hr, h2, h3, _, h5⟩ := run_append_own_at (P := P) w base t o.type e i z size bytes ht hi hz hsize hby hzs hsz v n xs hown ad m c news hl hnews h1 h63 hbytes hbase
  unfold Oper.wp execOp
  simp only [ho, resolve, invoke, builtin, Sem.run_bind, Sem.run_pure, Result.andThen_ok, List.map_toArray, List.map_cons, List.map_nil, hs, hx, hr]
  exact h v' w' h2 h3 hown.lt h5
def Side (x1 x2 : Int) (g : Nat) (v : Value) (W : World) : Prop := (W.cell? ⟨g, 0, none⟩ = some (.int .i64 x1) ∧ W.cell? ⟨g, 1, none⟩ = some (.int .i64 x2)) ∧ v.ownBlock ≠ some g
theorem sideStep {x1 x2 : Int} {g : Nat} {v v' : Value} {W W' : World} (h : Side x1 x2 g v W) (hg : W.grownBy W' v.ownBlock) (hat : v'.ownBlock = v.ownBlock ∨ v'.ownBlock = some W.heap.size) : Side x1 x2 g v' W' := by
  obtain ⟨⟨h0, h1⟩, h2⟩ := h
  have hlt := World.block_lt_of_cell? W _ h0
  simp only at hlt
  refine ⟨⟨hg.cell h0 (fun e => h2 e.symm), hg.cell h1 (fun e => h2 e.symm)⟩, ?_⟩
  rcases hat with e | e
  · rw [e]; exact h2
  · rw [e]; intro e'; injection e' with e'; omega
theorem sideC {x1 x2 : Int} {v : Value} {W : World} {B : Nat} {e : TypeId} {s n : Nat} {xs : List Value} (h : W.ownsRow B e s v n xs) : Side x1 x2 W.heap.size v (W.alloc (.cells #[.int .i64 x1, .int .i64 x2] e)) := by
  refine ⟨⟨by go_simp, by go_simp⟩, fun e' => ?_⟩
  have := (h.lt _ e').2
  omega
theorem sideA {x1 x2 : Int} (W : World) (e : TypeId) (o : Obj) (n c : Nat) : Side x1 x2 W.heap.size (.slice (some ⟨W.heap.size + 1, 0, none⟩) n c) ((W.alloc (.cells #[.int .i64 x1, .int .i64 x2] e)).alloc o) := by
  refine ⟨⟨by go_simp, by go_simp⟩, fun e' => ?_⟩
  simp [Value.ownBlock] at e'
theorem sideDrew {x1 x2 : Int} {g : Nat} {v : Value} {W : World} (h : Side x1 x2 g v W) : Side x1 x2 g v W.drew := h
theorem sideB {x1 x2 : Int} (W : World) (e e' : TypeId) (n c : Nat) : Side x1 x2 (W.heap.size + 1) (.slice (some ⟨W.heap.size, 0, none⟩) n c) ((W.alloc (.cells #[] e')).alloc (.cells #[.int .i64 x1, .int .i64 x2] e)) := by
  refine ⟨⟨by go_simp, by go_simp⟩, fun e' => ?_⟩
  simp [Value.ownBlock] at e'
theorem emptyNew (W : World) (a : Obj) (e : TypeId) : ((W.alloc a).alloc (.cells #[] e)).heap[W.heap.size + 1]? = some (.cells #[] e (0, 0)) := by
  have := heap_alloc_new (W.alloc a) (.cells #[] e)
  simpa using this
theorem emptyOld (W : World) (a : Obj) (e : TypeId) : ((W.alloc (.cells #[] e)).alloc a).heap[W.heap.size]? = some (.cells #[] e (0, 0)) :=
  (heap_alloc_old _ _ (by simp)).trans (heap_alloc_new _ _)
theorem same_eq (A A' : Option Addr) (c c' m : Nat) (u : List CalI.Iv) (w : World) (hm : u.length = m) (h : IvAt w A u) (h' : IvAt w A' u) (hn : m ≤ 1000) :
    Calls Tryd.prog 25 #[.slice A m c, .slice A' m c'] w fun e w' => e = .returned (.bool true) ∧ ∃ q, w' = w.drewN q := by
  subst hm
  refine (same_any A A' c c' u u w h h' (by omega) (by omega)).mono ?_
  rintro e w' ⟨rfl, q, rfl⟩
  exact ⟨by simp, q, rfl⟩
theorem keepG {w5 wp wn : World} {row : Option Nat} {p p' : Addr} {v v' : Value} (h : (wp.cell? p = some v ∧ wp.cell? p' = some v') ∧ Below w5.heap.size w5 wp) (hg : wp.grownBy wn row) (hr : ∀ k, row = some k → w5.heap.size ≤ k ∧ k < wp.heap.size) (hp : p.block < w5.heap.size) (hp' : p'.block < w5.heap.size) :
    (wn.cell? p = some v ∧ wn.cell? p' = some v') ∧ Below w5.heap.size w5 wn := by
  refine ⟨⟨?_, ?_⟩, h.2.grown hg h.2.size fun k hk => (hr k hk).1⟩
  · rw [hg.cell_far p (World.block_lt_of_cell? wp p h.1.1) (fun e => by have := (hr _ e.symm).1; omega)]; exact h.1.1
  · rw [hg.cell_far p' (World.block_lt_of_cell? wp p' h.1.2) (fun e => by have := (hr _ e.symm).1; omega)]; exact h.1.2
theorem ownsEmpty {W : World} {B g : Nat} {e : TypeId} {s : Nat} (hB : B ≤ g) (h : W.heap[g]? = some (.cells #[] e (0, 0))) : W.ownsRow B e s (.slice (some ⟨g, 0, none⟩) 0 0) 0 [] :=
  ⟨by simp, .inr ⟨g, 0, #[], rfl, hB, h, Nat.le_refl _, by decide, by simp, by simp⟩⟩
theorem newsAt {w W : World} {b off : Nat} {l : List CalI.Iv} (h : IvAt w (some ⟨b, off, none⟩) l) (hb : Below w.heap.size w W) :
    ∀ j u, (flat l)[j]? = some u → W.cell? ((⟨b, off, none⟩ : Addr).add j) = some u := by
  have h' := h.below hb
  by_cases h0 : 0 < l.length
  · obtain ⟨b', off', e, _, hr⟩ := h'.row h0
    injection e with e
    injection e with e1 e2
    subst e1 e2
    exact flat_cells hr
  · have e : l = [] := List.length_eq_zero_iff.1 (by omega)
    subst e
    intro j u hu
    simp [flat] at hu
theorem ivAt_drop {w : World} {b off : Nat} {l : List CalI.Iv} (t : Nat) (h : IvAt w (some ⟨b, off, none⟩) l) : IvAt w (some ⟨b, off + t * 2, none⟩) (l.drop t) := by
  intro k hk
  have hk' : t + k < l.length := by simp at hk; omega
  obtain ⟨b', off', e, c0, c1⟩ := h (t + k) hk'
  injection e with e
  injection e with e1 e2
  subst e1 e2
  refine ⟨b, off + t * 2, rfl, ?_, ?_⟩
  · rw [show off + t * 2 + k * 2 = off + (t + k) * 2 by omega, c0]; simp
  · rw [show off + t * 2 + k * 2 + 1 = off + (t + k) * 2 + 1 by omega, c1]; simp
theorem ivAt_take {w : World} {b off : Nat} {l : List CalI.Iv} (t : Nat) (h : IvAt w (some ⟨b, off, none⟩) l) : IvAt w (some ⟨b, off, none⟩) (l.take t) := by
  intro k hk
  have hk' : k < l.length := by simp at hk; omega
  obtain ⟨b', off', e, c0, c1⟩ := h k hk'
  injection e with e
  injection e with e1 e2
  subst e1 e2
  exact ⟨b, off, rfl, by rw [c0]; simp, by rw [c1]; simp⟩
theorem wp_region_quiet_C {P : Program} {C : World → Prop} {id : Nat} {Q : Exit → Act → World → Prop} {a : Act} {w : World} {l : List Oper} (hm : P.follows .mixedOrders = true) (hB : Region.lexB .any l.toArray = true) (hC : C (w.drewN 1))
    (h : wpQuiet P l.toArray C (fun a' => ∀ w', C w' → Q .normal a' w') l a) : (Code.region id l.toArray true).wp P Q a w :=
  wp_region_quiet hm hB hC (by simpa using h)
def Two (w5 : World) (p p' : Addr) (v v' : Value) (W : World) : Prop := (W.cell? p = some v ∧ W.cell? p' = some v') ∧ Below w5.heap.size w5 W
theorem keepTwo {w5 wp wn : World} {p p' : Addr} {v v' : Value} (h : Two w5 p p' v v' wp) (hb : Below wp.heap.size wp wn) : Two w5 p p' v v' wn := keepP2 h hb
structure Cls (S : World → Prop) where
  w : World
  h : S w
abbrev InIs (d : Int) (A : Option Addr) (m c : Nat) (l : List CalI.Iv) (r : Bool) : Prop := ∀ W, IvAt W A l → Calls Tryd.prog 26 #[.int .i64 d, .slice A m c] W fun e w' => e = .returned (.bool r) ∧ Below W.heap.size W w'
theorem inIs (d : Int) (A : Option Addr) (m c : Nat) (l : List CalI.Iv) (r : Bool) (hm : l.length = m) (hm2 : m ≤ 1000) (hr : inB l d = r) : InIs d A m c l r := by
  subst hm hr
  exact fun W hW => in_any A c d l W hW (by omega)

set_option maxRecDepth 100000 in
set_option maxHeartbeats 8000000 in
theorem points_rows (n at_ : Int) (b off cap len : Nat) (l : List CalI.Iv) (w : World) (HT : Hid (Tab w)) (HL : Hid (l.length = len)) (h0 : 0 < len) (hl : len ≤ 40) (hcap : len ≤ cap)
    (hq0 : 0 ≤ at_) (t : Nat) (ht : t < len) (hmod : at_ % (len : Int) = (t : Int)) (HI : Hid (IvAt w (some ⟨b, off, none⟩) l)) (hbw : b < w.heap.size)
    (H : Hid (∀ k x, l[k]? = some x → w.cell? ⟨b, off + k * 2, none⟩ = some (.int .i64 x.1) ∧ w.cell? ⟨b, off + k * 2 + 1, none⟩ = some (.int .i64 x.2)))
    (HO : Hid (allOk l = true)) :
    Calls Tryd.prog 8 #[.slice (some ⟨b, off, none⟩) len cap, .int .i64 n, .int .u64 at_] w (LawOk w) := by
  obtain ⟨i0, hi, hz0, hz1, hz2⟩ := info_parts infoInt
  have hd : decide ((40 : Int) < len) = false := by simp; omega
  have hU := fun (W : World) (hW : IvAt W (some ⟨b, off, none⟩) l) => (unhide HL) ▸ union_any (some ⟨b, off, none⟩) cap l W hW (by rw [unhide HL]; omega) (fun h => by cases h) (unhide HO)
  have HU := hide hU; clear hU
  go_enter Tryd.func8, Tryd.ntmps8
  go_wp2_with fail
  refine (sane_any _ (unhide HT)).mono ?_; rintro e w1 ⟨rfl, hb1⟩
  have HB1 := hide hb1; clear hb1
  go_wp2_with fail
  refine ((unhide HU) _ ((unhide HI).below (unhide HB1))).mono ?_; rintro e w2 ⟨u, A2, c2, rfl, hiu, hun, hul, hA2, hb2⟩
  have HB2 := hide (thenB (unhide HB1) hb2); have HIU := hide hiu; have HUN := hide hun; have HA2 := hide hA2; clear hb2 hiu hun hA2
  rw [unhide HL] at hul
  have hup := union_pos (unhide HUN) (unhide HO) (by rw [unhide HL]; exact h0)
  obtain ⟨b2, off2, rfl, hbw2, hr2⟩ := (unhide HIU).row hup
  have HR2 := hide hr2; clear hr2
  obtain ⟨m, hm⟩ : ∃ m, u.length = m := ⟨_, rfl⟩
  rw [hm] at hul hup
  rw [hm]
  have HM := hide hm; clear hm
  have hz2s : w.heap.size ≤ w2.heap.size := (unhide HB2).size
  go_wp2_with fail
  go_loopw [9, 10] (fun v i wr => ∃ k : Nat, k ≤ len ∧ i = .int .i64 k ∧ wr.ownsRow w2.heap.size 3 1 v (k * 4 + 1) (ints (dsOf n (l.take k))) ∧ Below w2.heap.size w2 wr) (fun _ i _ => len - (intOf i).toNat)
  case atStart => exact ⟨0, Nat.zero_le _, rfl, World.ownsRow_lit w2 #[.int .i64 n] 1 (Nat.le_refl _) (by decide) rfl, (Below.refl _ _).alloc (Nat.le_refl _) _⟩
  case round =>
    obtain ⟨k, hk, rfl, hown, hb3⟩ := hrel
    have HB3 := hide hb3; have HOW := hide hown; clear hb3 hown
    have hz3 : w2.heap.size ≤ wr.heap.size := (unhide HB3).size
    by_cases hlt : k < len
    · obtain ⟨⟨x1, x2⟩, hx⟩ : ∃ x, l[k]? = some x := ⟨_, List.getElem?_eq_getElem (by rw [unhide HL]; exact hlt)⟩
      obtain ⟨c0, c1⟩ := (unhide H) k _ hx
      have hxb := (allOk_bd (unhide HO)).1 (x1, x2) (List.mem_of_getElem? hx)
      have HX := hide hx; clear hx
      simp only at c0 c1 hxb
      obtain ⟨hx1, hx2, hx3, hx4⟩ := hxb
      rw [← ((unhide HB2).trans ((unhide HB3).mono hz2s)).cell (p := ⟨b, off + k * 2, none⟩) hbw] at c0
      rw [← ((unhide HB2).trans ((unhide HB3).mono hz2s)).cell (p := ⟨b, off + k * 2 + 1, none⟩) hbw] at c1
      go_wp2_with fail
      have hi0' : (0 : Int) ≤ (k : Int) := Int.natCast_nonneg _
      have hi1 : (k : Int) < (len : Int) := by omega
      have HO1 := fun (o : Obj) => World.ownsRow.alloc (unhide HOW) o
      have HOA := hide HO1; clear HO1
      have hbr : b < wr.heap.size := by omega
      have hrow := (unhide HOW).lt
      have hne : Value.ownBlock u9 ≠ some b := fun e => by have := (hrow b e).1; omega
      clear hrow
      go_region_held3 (fun W => W.cell? ⟨b, off + k * 2, none⟩ = some (.int .i64 x1) ∧ W.cell? ⟨b, off + k * 2 + 1, none⟩ = some (.int .i64 x2))
        (first
          | go_keep
          | (go_split_ands
             refine ⟨?_, ?_⟩
             · (rw [hgrow.cell_far _ (by simp; omega) (Ne.symm hne)]; assumption)
             · (rw [hgrow.cell_far _ (by simp; omega) (Ne.symm hne)]; assumption)))
        ((refine step_append_lies _ (by rfl) _ _ _ (by rfl) w2.heap.size 3 i0 _ 1 8 Tryd.underlying49 hi hz0 hz1 hz2 rfl (by omega) u9 (k * 4 + 1) (ints (dsOf n (l.take k))) (by rfl) (((unhide HOA) _).drew)
            ⟨wr.heap.size, 0, none⟩ 4 4 [.int .i64 x1, .int .i64 x2, .int .i64 (IntKind.i64.wrap (x1 - 1)), .int .i64 (IntKind.i64.wrap (x2 + 1))] (by rfl) (by rfl) (World.news_of_block (cs := #[.int .i64 x1, .int .i64 x2, .int .i64 (IntKind.i64.wrap (x1 - 1)), .int .i64 (IntKind.i64.wrap (x2 + 1))]) (t := 3) (fr := (0, 0)) (heap_alloc_new wr _)) (fourOne _ _ _ _)
            (by omega) (by unfold maxLen; omega) (by omega) (by simp; omega) (wr.heap.size + 1) (by simp) ?_; intro gg cap' w3 hown3 hgrow hat hlt3))
      have e1 : IntKind.i64.wrap (x1 - 1) = x1 - 1 := IntWalk.i64_in _ (by omega)
      have e2 : IntKind.i64.wrap (x2 + 1) = x2 + 1 := IntWalk.i64_in _ (by omega)
      rw [e1, e2] at hown3
      have HO3 := hide hown3; clear hown3 e1 e2
      go_wp2_with fail
      go_roundw
      case rel =>
        refine ⟨k + 1, by omega, by go_num, ?_, ?_⟩
        · rw [List.take_add_one, unhide HX]
          rw [show (k + 1) * 4 + 1 = k * 4 + 1 + 4 by omega]
          simp only [Option.toList_some, dsOf_snoc]
          exact unhide HO3
        · exact (((unhide HB3).alloc hz3 _).drew).grown hgrow (by simp; omega) (fun k hk => ((unhide HOW).lt k hk).1)
      case measure => simp [intOf]; omega
    · obtain rfl : len = k := by omega
      obtain ⟨g, cg, rfl, hg1, hg2⟩ := (unhide HOW).form (by omega)
      rw [List.take_of_length_le (by rw [unhide HL]; exact Nat.le_refl _)] at HOW
      have hcg := ds_cell (unhide HOW) (by rw [unhide HL])
      obtain ⟨M, hM⟩ : ∃ M, len * 4 + 1 = M := ⟨_, rfl⟩
      have hM2 : M ≤ 200 := by omega
      have HDL : Hid ((dsOf n l).length = M) := by rw [← hM, ← unhide HL]; exact dsOf_len n l
      rw [hM]
      have HG := hide hcg; have HMM := hide hM; clear hcg hM HOW
      go_wp2_with fail
      obtain ⟨wo, rfl⟩ : ∃ wo : World, wo = wr := ⟨_, rfl⟩
      go_loopw [11] (fun i wl => ∃ j : Nat, j ≤ M ∧ i = .int .i64 j ∧ Below wo.heap.size wo wl) (fun i _ => M - (intOf i).toNat)
      case atStart => exact ⟨0, Nat.zero_le _, rfl, Below.refl _ _⟩
      case round =>
        obtain ⟨j, hj, rfl, hb4⟩ := hrel
        have HB4 := hide hb4; clear hb4
        by_cases hlt2 : j < M
        · obtain ⟨d, hd⟩ : ∃ x, (dsOf n l)[j]? = some x := ⟨_, List.getElem?_eq_getElem (by rw [unhide HDL]; exact hlt2)⟩
          have c0 := (unhide HG) j _ hd
          rw [← (unhide HB4).cell (p := ⟨g, j, none⟩) hg2] at c0
          have HI1 : Hid (InIs d (some ⟨b2, off2, none⟩) m c2 u (inB l d)) := inIs d _ m c2 u _ (unhide HM) (by omega) (inB_union (unhide HUN) d)
          have HI2 : Hid (InIs d (some ⟨b, off, none⟩) len cap l (inB l d)) := inIs d _ len cap l _ (unhide HL) (by omega) rfl
          generalize inB l d = q at HI1 HI2
          have hS : wr.cell? ⟨g, j, none⟩ = some (.int .i64 d) ∧ Below wr.heap.size wr wr := ⟨c0, Below.refl _ _⟩
          have HS := hide hS
          have HU4 := hide (((unhide HIU).below (unhide HB3)).below (unhide HB4))
          have HL4 := hide ((((unhide HI).below (unhide HB2)).below (unhide HB3)).below (unhide HB4))
          have hj0 : (0 : Int) ≤ (j : Int) := Int.natCast_nonneg _
          have hj1 : (j : Int) < (M : Int) := by omega
          have hqq : (q != q) = false := by simp
          clear hd hS
          go_wp2_with fail
          go_region_held3 (fun W => W.cell? ⟨g, j, none⟩ = some (.int .i64 d) ∧ Below wr.heap.size wr W)
            (first | exact unhide HS | exact keepP (unhide HS) (belowDrewN 1 (Below.refl _ _)) | exact keepP (by assumption) (by assumption))
            (first
              | (go_at_call 26; refine ((unhide HI1) _ ((unhide HU4).below (And.right (by assumption)))).mono ?_; rintro e w' ⟨rfl, hb⟩)
              | (go_at_call 26; refine ((unhide HI2) _ ((unhide HL4).below (And.right (by assumption)))).mono ?_; rintro e w' ⟨rfl, hb⟩))
          go_wp2_with fail
          go_roundw
          case rel => exact ⟨j + 1, by omega, by go_num, thenB (unhide HB4) (And.right (by assumption))⟩
          case measure => simp [intOf]; omega
        · have hjM : j = M := by omega
          clear hjM
          have HW4 : Hid (Below w.heap.size w wr) := (unhide HB2).trans (((unhide HB3).trans ((unhide HB4).mono hz3)).mono hz2s)
          have HU4 := hide (((unhide HIU).below (unhide HB3)).below (unhide HB4))
          have HL4 := hide ((((unhide HI).below (unhide HB2)).below (unhide HB3)).below (unhide HB4))
          have hb4s := (unhide HB4).size
          have hbw4 : b2 < wr.heap.size := by omega
          have hb2r : Hid (∀ k x, u[k]? = some x → wr.cell? ⟨b2, off2 + k * 2, none⟩ = some (.int .i64 x.1) ∧ wr.cell? ⟨b2, off2 + k * 2 + 1, none⟩ = some (.int .i64 x.2)) := by
            intro k x hx
            obtain ⟨d0, d1⟩ := (unhide HR2) k x hx
            have hbb : Below w2.heap.size w2 wr := (unhide HB3).trans ((unhide HB4).mono hz3)
            rw [hbb.cell (p := ⟨b2, off2 + k * 2, none⟩) hbw2, hbb.cell (p := ⟨b2, off2 + k * 2 + 1, none⟩) hbw2]
            exact ⟨d0, d1⟩
          go_wp2_with fail
          obtain ⟨wp, rfl⟩ : ∃ wp : World, wp = wr := ⟨_, rfl⟩
          go_loopw [12] (fun i wl => ∃ j : Nat, j ≤ m ∧ i = .int .i64 j ∧ Below wp.heap.size wp wl) (fun i _ => m - (intOf i).toNat)
          case atStart => exact ⟨0, Nat.zero_le _, rfl, Below.refl _ _⟩
          case round =>
            obtain ⟨j3, hj3, rfl, hb5⟩ := hrel
            have HB5 := hide hb5; clear hb5
            by_cases hlt3 : j3 < m
            · obtain ⟨⟨y1, y2⟩, hy⟩ : ∃ x, u[j3]? = some x := ⟨_, List.getElem?_eq_getElem (by rw [unhide HM]; exact hlt3)⟩
              obtain ⟨d0, d1⟩ := (unhide hb2r) j3 _ hy
              simp only at d0 d1
              have hyo : ivOk y1 y2 = true := by
                have := union_allOk (unhide HO) (unhide HUN)
                simp only [allOk, List.all_eq_true] at this
                exact this (y1, y2) (List.mem_of_getElem? hy)
              have hyb := (ivOk_iff _ _).1 hyo
              have hE := ivE_t hyo
              have HC : Hid (CheckIs y1 y2 0) := fun W => hE ▸ check_any y1 y2 W
              rw [← (unhide HB5).cell (p := ⟨b2, off2 + j3 * 2, none⟩) hbw4] at d0
              rw [← (unhide HB5).cell (p := ⟨b2, off2 + j3 * 2 + 1, none⟩) hbw4] at d1
              have hj0 : (0 : Int) ≤ (j3 : Int) := Int.natCast_nonneg _
              have hj1 : (j3 : Int) < (m : Int) := by omega
              clear hyo hE
              by_cases hz : j3 = 0
              · subst hz
                simp only [Nat.zero_mul, Nat.add_zero] at d0 d1
                have HS : Hid (Two wr ⟨b2, off2, none⟩ ⟨b2, off2 + 1, none⟩ (.int .i64 y1) (.int .i64 y2) wr) := ⟨⟨d0, d1⟩, Below.refl _ _⟩
                have hD : Two wr ⟨b2, off2, none⟩ ⟨b2, off2 + 1, none⟩ (.int .i64 y1) (.int .i64 y2) (wr.drewN 1) := keepTwo (unhide HS) (belowDrewN 1 (Below.refl _ _))
                have HD := hide hD
                have hgt : decide ((0 : Int) < 0) = false := by decide
                clear hD hy
                have hT0 : ∀ x : Cls (Two wr ⟨b2, off2, none⟩ ⟨b2, off2 + 1, none⟩ (.int .i64 y1) (.int .i64 y2)), x.w.cell? ⟨b2, off2, none⟩ = some (.int .i64 y1) := fun x => x.h.1.1
                have hT1 : ∀ x : Cls (Two wr ⟨b2, off2, none⟩ ⟨b2, off2 + 1, none⟩ (.int .i64 y1) (.int .i64 y2)), x.w.cell? ⟨b2, off2 + 1, none⟩ = some (.int .i64 y2) := fun x => x.h.1.2
                have hTn : Nonempty (Cls (Two wr ⟨b2, off2, none⟩ ⟨b2, off2 + 1, none⟩ (.int .i64 y1) (.int .i64 y2))) := ⟨⟨_, unhide HD⟩⟩
                have hm0 : (0 : Int) < (m : Int) := by omega
                rw [show ((0 : Nat) : Int) = 0 from rfl]
                go_wp2_with fail
                refine wp_region_quiet_C (C := fun W => ∃ x : Cls (Two wr ⟨b2, off2, none⟩ ⟨b2, off2 + 1, none⟩ (.int .i64 y1) (.int .i64 y2)), W = x.w) (by kernel_rfl) (by kernel_rfl) ⟨⟨_, unhide HD⟩, rfl⟩ ?_
                repeat (go_big_quiet_step ((go_at_call 23; exact ((unhide HC) _).mono fun e w'' ⟨he, hb⟩ => ⟨he, ⟨w'', keepTwo (Cls.h _) hb⟩, rfl⟩)))
                refine wpQuiet_nil ?_
                rintro _ ⟨x, rfl⟩
                have HBW := hide x.h.2
                clear hT0 hT1 hTn
                go_wp2_with fail
                go_roundw
                case rel => exact ⟨0 + 1, by omega, by go_num, thenB (unhide HB5) (unhide HBW)⟩
                case measure => simp [intOf]; omega
              · obtain ⟨p, rfl⟩ : ∃ p, j3 = p + 1 := ⟨j3 - 1, by omega⟩
                obtain ⟨⟨v1, v2⟩, hv⟩ : ∃ x, u[p]? = some x := ⟨_, List.getElem?_eq_getElem (by rw [unhide HM]; omega)⟩
                have hsep := sep_next (unhide HUN).1 p (v1, v2) (y1, y2) hv hy
                obtain ⟨_, e1⟩ := (unhide hb2r) p _ hv
                have hvo : ivOk v1 v2 = true := by
                  have := union_allOk (unhide HO) (unhide HUN)
                  simp only [allOk, List.all_eq_true] at this
                  exact this (v1, v2) (List.mem_of_getElem? hv)
                have hvb := (ivOk_iff _ _).1 hvo
                simp only at e1 hsep
                rw [← (unhide HB5).cell (p := ⟨b2, off2 + p * 2 + 1, none⟩) hbw4] at e1
                have hS : (wr.cell? ⟨b2, off2 + (p + 1) * 2, none⟩ = some (.int .i64 y1) ∧ wr.cell? ⟨b2, off2 + (p + 1) * 2 + 1, none⟩ = some (.int .i64 y2) ∧ wr.cell? ⟨b2, off2 + p * 2 + 1, none⟩ = some (.int .i64 v2)) ∧ Below wr.heap.size wr wr := ⟨⟨d0, d1, e1⟩, Below.refl _ _⟩
                have HS := hide hS
                have hp0 : (0 : Int) ≤ (p : Int) := Int.natCast_nonneg _
                have hp1 : (p : Int) < (m : Int) := by omega
                have hp2 : p < m := by omega
                have hp3 : (0 : Int) ≤ (p : Int) + 1 := by omega
                have hp4 : (p : Int) + 1 < (m : Int) := by omega
                have hp5 : ((p : Int) + 1).toNat = p + 1 := by omega
                have hge : decide (y1 ≤ v2 + 1) = false := decide_eq_false (by omega)
                have hgt : decide ((0 : Int) < (p : Int) + 1) = true := decide_eq_true (by omega)
                have hpw : IntKind.i64.wrap ((p : Int) + 1 - 1) = (p : Int) := (IntWalk.i64_in _ (by omega)).trans (by omega)
                have hpw2 : IntKind.i64.wrap (p : Int) = (p : Int) := IntWalk.i64_in _ (by omega)
                have hvw : IntKind.i64.wrap (v2 + 1) = v2 + 1 := IntWalk.i64_in _ (by omega)
                clear hS hy hv hvo hvb hsep hz
                go_wp2_with fail
                go_region_held3 (fun W => (W.cell? ⟨b2, off2 + (p + 1) * 2, none⟩ = some (.int .i64 y1) ∧ W.cell? ⟨b2, off2 + (p + 1) * 2 + 1, none⟩ = some (.int .i64 y2) ∧ W.cell? ⟨b2, off2 + p * 2 + 1, none⟩ = some (.int .i64 v2)) ∧ Below wr.heap.size wr W)
                  (first | exact unhide HS | exact keepP3 (unhide HS) (belowDrewN 1 (Below.refl _ _)) | exact keepP3 (by assumption) (by assumption))
                  (first
                    | (go_at_call 23; refine ((unhide HC) _).mono ?_; rintro e w' ⟨rfl, hb⟩))
                clear hpw hpw2 hvw
                go_wp2_with fail
                go_roundw
                case rel => exact ⟨p + 1 + 1, by omega, by go_num, thenB (unhide HB5) (And.right (by assumption))⟩
                case measure => simp [intOf]; omega
            · have hbeq : ((len : Int) == 0) = false := by simp; omega
              obtain ⟨⟨x1, x2⟩, hx⟩ : ∃ x, l[t]? = some x := ⟨_, List.getElem?_eq_getElem (by rw [unhide HL]; exact ht)⟩
              have HW5 : Hid (Below w.heap.size w wr) := thenW (unhide HW4) (unhide HB5)
              have HU5 := hide ((unhide HU4).below (unhide HB5))
              have HL5 := hide ((unhide HL4).below (unhide HB5))
              have hbw5 : b < wr.heap.size := Nat.lt_of_lt_of_le hbw (unhide HW5).size
              obtain ⟨c0, c1⟩ := (unhide H) t _ hx
              simp only at c0 c1
              rw [← (unhide HW5).cell (p := ⟨b, off + t * 2, none⟩) hbw] at c0
              rw [← (unhide HW5).cell (p := ⟨b, off + t * 2 + 1, none⟩) hbw] at c1
              have hS : (wr.cell? ⟨b, off + t * 2, none⟩ = some (.int .i64 x1) ∧ wr.cell? ⟨b, off + t * 2 + 1, none⟩ = some (.int .i64 x2)) ∧ Below wr.heap.size wr wr := ⟨⟨c0, c1⟩, Below.refl _ _⟩
              have HS := hide hS
              have HX := hide hx
              have ht0 : (0 : Int) ≤ (t : Int) := Int.natCast_nonneg _
              have ht1 : (t : Int) < (len : Int) := by omega
              have ht2 : (t : Int) ≤ (len : Int) := by omega
              have ht3 : (t : Int) ≤ (cap : Int) := by omega
              have ht4 : (len : Int) ≤ (cap : Int) := by omega
              have ht5 : ¬ cap = t := by omega
              have ht6 : ¬ t = cap := by omega
              obtain ⟨i1, hi1, hy0, hy1, hy2⟩ := info_parts infoIv
              have hlen1 : (flat (l.drop t)).length = (len - t) * 2 := by rw [flat_length, List.length_drop, unhide HL]
              have hlen2 : (flat (l.take t)).length = t * 2 := by rw [flat_length, List.length_take, unhide HL, Nat.min_eq_left (by omega)]
              have HLd := hide (ivAt_drop t (unhide HL5))
              have HLt := hide (ivAt_take t (unhide HL5))
              have H1 := hide hlen1; have H2 := hide hlen2
              clear hS hx hlen1 hlen2
              go_wp2_with fail
              go_region_held3 (fun W => (W.cell? ⟨b, off + t * 2, none⟩ = some (.int .i64 x1) ∧ W.cell? ⟨b, off + t * 2 + 1, none⟩ = some (.int .i64 x2)) ∧ Below wr.heap.size wr W)
                (first
                  | exact unhide HS
                  | exact keepP2 (unhide HS) (belowDrewN 1 (Below.refl _ _))
                  | exact keepG (by assumption) hgrow hrow hbw5 hbw5
                  | exact keepP2 (by assumption) ((Below.refl _ _).alloc (Nat.le_refl _) _))
                (first
                  | (refine step_append_at _ (by rfl) _ _ _ (by rfl) wr.heap.size 34 i1 _ 2 16 Tryd.underlying35 hi1 hy0 hy1 hy2 rfl (by omega) _ 0 [] (by rfl)
                        (ownsEmpty (by simp) (by first | exact heap_alloc_new _ _ | exact emptyOld _ _ _ | exact emptyNew _ _ _))
                        ⟨b, off + t * 2, none⟩ (len - t) _ (flat (l.drop t)) (by rfl) (unhide H1) (newsAt (unhide HLd) (And.right (by assumption))) (flat_one _)
                        (by unfold maxLen; omega) (by omega) (And.right (show _ ∧ Below wr.heap.size wr _ by assumption)).size ?_
                     intro v1 w3 hown1 hgrow hrow hat
                     first | (have hside := sideStep (x1 := x1) (x2 := x2) (sideDrew (sideA _ _ _ _ _)) hgrow hat) | (have hside := sideStep (x1 := x1) (x2 := x2) (sideDrew (sideB _ _ _ _ _)) hgrow hat) | skip)
                  | (refine step_append_at _ (by rfl) _ _ _ (by rfl) wr.heap.size 34 i1 _ 2 16 Tryd.underlying35 hi1 hy0 hy1 hy2 rfl (by omega) _ (0 + (len - t)) ([] ++ flat (l.drop t)) (by rfl)
                        (by first | assumption | exact World.ownsRow.alloc (by assumption) _)
                        ⟨b, off, none⟩ t _ (flat (l.take t)) (by rfl) (unhide H2) (newsAt (unhide HLt) (And.right (by assumption))) (flat_one _)
                        (by unfold maxLen; omega) (by omega) (And.right (show _ ∧ Below wr.heap.size wr _ by assumption)).size ?_
                     intro v2 w4 hown2 hgrow hrow hat
                     first | (have hside := sideStep (x1 := x1) (x2 := x2) (by assumption) hgrow hat) | (have hside := sideStep (x1 := x1) (x2 := x2) (sideC (by assumption)) hgrow hat) | skip)
                  | (refine step_append_at _ (by rfl) _ _ _ (by rfl) wr.heap.size 34 i1 _ 2 16 Tryd.underlying35 hi1 hy0 hy1 hy2 rfl (by omega) _ (0 + (len - t) + t) ([] ++ flat (l.drop t) ++ flat (l.take t)) (by rfl)
                        (by first | assumption | exact World.ownsRow.alloc (by assumption) _)
                        _ 1 _ [.int .i64 x1, .int .i64 x2] (by rfl) rfl
                        (by first | exact twoCells (And.left (And.left (show Side x1 x2 _ _ _ by assumption))) (And.right (And.left (show Side x1 x2 _ _ _ by assumption))) | exact twoCells (by go_simp) (by go_simp)) (twoOne _ _)
                        (by unfold maxLen; omega) (by omega) (And.right (show _ ∧ Below wr.heap.size wr _ by assumption)).size ?_
                     intro v3 w5 hown3 hgrow hrow hat))
              all_goals
                have hlen3 := turned_len (unhide HX)
                rw [unhide HL] at hlen3
                have hown4 : OwnIv w5 wr.heap.size v3 (turned l t (x1, x2)) := by
                  unfold OwnIv
                  rw [hlen3, flat_turned, show len + 1 = 0 + (len - t) + t + 1 by omega]
                  exact hown3
                obtain ⟨A3, c3, rfl, hit, hA3⟩ := hown4.form2
                have HB6 : Hid (Below wr.heap.size wr w5) := And.right (show _ ∧ Below wr.heap.size wr w5 by assumption)
                have HIT := hide hit; have HA3 := hide hA3; have HL3 := hide hlen3
                clear hown3 hown4 hit hA3 hlen3
                rw [unhide HL3]
                have hU2 := (unhide HL3) ▸ union_any A3 c3 (turned l t (x1, x2)) w5 (unhide HIT) (by rw [unhide HL3]; omega) (unhide HA3) (turned_ok (unhide HX) (unhide HO))
                have HU2 := hide hU2
                clear hU2
                go_wp2_with fail
                refine (unhide HU2).mono ?_; rintro e w6 ⟨u2, A6, c6, he, hiu6, hun6, _, _, hb6⟩
                obtain rfl : u = u2 := (turned_union (unhide HX) (unhide HUN) hun6).symm
                rw [unhide HM] at he
                subst he
                have hU3 := (unhide HM) ▸ union_any (some ⟨b2, off2, none⟩) c2 u w6 (((unhide HU5).below (unhide HB6)).below hb6) (by rw [unhide HM]; omega) (fun h => by cases h) (union_allOk (unhide HO) (unhide HUN))
                have HU3 := hide hU3; have HB7 := hide (thenW (thenW (unhide HW5) (unhide HB6)) hb6); have HI6 := hide hiu6; have HU6 := hide (((unhide HU5).below (unhide HB6)).below hb6)
                clear hU3 hiu6 hun6 hb6
                go_wp2_with fail
                refine (unhide HU3).mono ?_; rintro e w7 ⟨u3, A7, c7, he, hiu7, hun7, _, _, hb7⟩
                obtain rfl : u = u3 := (union_again (unhide HUN) hun7).symm
                rw [unhide HM] at he
                subst he
                have hS1 := same_eq (some ⟨b2, off2, none⟩) A6 c2 c6 m u w7 (unhide HM) ((unhide HU6).below hb7) ((unhide HI6).below hb7) (by omega)
                have hS2 := fun q => same_eq (some ⟨b2, off2, none⟩) A7 c2 c7 m u (w7.drewN q) (unhide HM) (((unhide HU6).below hb7).below (belowDrewN q (Below.refl _ _))) (hiu7.below (belowDrewN q (Below.refl _ _))) (by omega)
                have HS1 := hide hS1; have HS2 := hide hS2; have HB8 := hide (thenW (unhide HB7) hb7)
                clear hS1 hS2 hiu7 hun7 hb7
                go_wp2_with fail
                refine (unhide HS1).mono ?_; rintro e w' ⟨rfl, q, rfl⟩
                go_wp2_with fail
                refine (unhide HS2 q).mono ?_; rintro e w' ⟨rfl, q', rfl⟩
                go_wp2_with fail
                go_ret
                exact ⟨rfl, belowDrewN _ (unhide HB8)⟩
end Go.Proofs.YtbfpbmijmiljlaaDoor
