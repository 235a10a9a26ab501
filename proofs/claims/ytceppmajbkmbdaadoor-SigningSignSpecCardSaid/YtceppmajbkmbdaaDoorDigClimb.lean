/- Contracts over the digest's program: climbing a path. -/
import Derived.Test.YtceppmajbkmbdaaDoorDigPLen
namespace Go.Proofs.YtceppmajbkmbdaaDoor
set_option linter.unusedSimpArgs false
set_option linter.unusedVariables false
open Go.RowKit

def lastP (p : List (List Int)) : List Int := p.getD (p.length - 1) []
def initP (p : List (List Int)) : List (List Int) := p.take (p.length - 1)
def climbP (d : List Int) (n at_ : Nat) (p : List (List Int)) : List Int :=
  if h : n ≤ 1 then leafP d else if at_ < halfN n then nodeP (climbP d (halfN n) at_ (initP p)) (lastP p) else nodeP (lastP p) (climbP d (n - halfN n) (at_ - halfN n) (initP p))
termination_by n
decreasing_by
  · exact halfN_lt (by omega)
  · have := halfN_pos n; omega
theorem climbP_one (d : List Int) (at_ : Nat) (p : List (List Int)) : climbP d 1 at_ p = leafP d := by rw [climbP]; rfl
theorem climbP_left (d : List Int) {n at_ : Nat} (p : List (List Int)) (h : 2 ≤ n) (ha : at_ < halfN n) : climbP d n at_ p = nodeP (climbP d (halfN n) at_ (initP p)) (lastP p) := by
  rw [climbP, dif_neg (by omega), if_pos ha]
theorem climbP_right (d : List Int) {n at_ : Nat} (p : List (List Int)) (h : 2 ≤ n) (ha : ¬ at_ < halfN n) : climbP d n at_ p = nodeP (lastP p) (climbP d (n - halfN n) (at_ - halfN n) (initP p)) := by
  rw [climbP, dif_neg (by omega), if_neg ha]
theorem dg_climb (d : List Int) (n at_ : Nat) (p : List (List Int)) : Dg (climbP d n at_ p) := by
  rw [climbP]
  split
  · exact dg_hash _
  · split <;> exact dg_hash _
theorem lastP_get {p : List (List Int)} (h : p ≠ []) : p[p.length - 1]? = some (lastP p) := by
  have := List.length_pos_iff.2 h
  unfold lastP
  rw [List.getD_eq_getElem?_getD, List.getElem?_eq_getElem (by omega)]
  rfl
abbrev ClimbIs (w : World) (hb : Nat) (d : List Int) (n at_ m c : Nat) (A : Option Addr) (p : List (List Int)) : Prop :=
  Calls Tryd.prog 55 #[.pointer (some ⟨hb, 0, none⟩), dv d, .int .i64 (at_ : Int), .int .i64 (n : Int), .slice A m c] w fun x w' => x = .returned (dv (climbP d n at_ p)) ∧ Below w.heap.size w w'

/-- worlds behind a box that holds a digest -/
structure SB (w : World) (d : List Int) (W : World) : Prop where
  lo : Below w.heap.size w W
  box : ByAt W w.heap.size 24 d
theorem SB.later {w W W' : World} {d : List Int} (h : SB w d W) (hb : Below W.heap.size W W') : SB w d W' := ⟨thenB h.lo hb, h.box.keep hb⟩
set_option maxRecDepth 100000 in
set_option maxHeartbeats 4000000 in
theorem climb_one (n : Nat) (h1n : n = 1) (at_ : Nat) (d : List Int) (p : List (List Int)) (w : World) (hb m c : Nat) (A : Option Addr) (hn : n ≤ 1099511627776) (h1 : 1 ≤ n) (hat : at_ < n) (hpm : p.length = m) (hm : m = lenP n at_) (hmc : m ≤ c) (hd : Dg d) (hA : Ds w A p) (h : HAt w hb) (hT : DTab w) : ClimbIs w hb d n at_ m c A p := by
  have HT := hide hT
  have HH := hide h
  have HA := hide hA
  have HD := hide hd
  have HN : Hid (n ≤ 1099511627776 ∧ 1 ≤ n ∧ at_ < n ∧ p.length = m ∧ m = lenP n at_ ∧ m ≤ c) := ⟨hn, h1, hat, hpm, hm, hmc⟩
  obtain ⟨cd, hcd⟩ : ∃ cs, cs = (d.map (Value.int .u8)).toArray := ⟨_, rfl⟩
  have hsd : cd.size = 32 := by rw [hcd]; simpa using hd.len
  have HCD := hide hcd
  unfold ClimbIs
  rw [show dv d = .agg cd by rw [hcd]]
  subst h1n
  rw [climbP_one]
  clear hn h1 hat hpm hm hmc hd hA h hT hcd
  go_enter Tryd.func55, Tryd.ntmps55
  go_upto_region 1 with fail
  generalize hX1 : w.alloc _ = W1
  have hB1 : Below w.heap.size w W1 := hX1 ▸ (Below.refl _ _).alloc (Nat.le_refl _) _
  have ho1 : ByAt W1 w.heap.size 24 d := boxed w W1 d _ (by rw [← hX1]; first | rfl | (rw [unhide HCD]; rfl))
  have hz1 : W1.heap.size = w.heap.size + 1 := by rw [← hX1]; show (w.heap.push _).size = _; rw [Array.size_push]
  generalize hX2 : W1.alloc _ = W2
  have hB2 : Below W1.heap.size W1 W2 := hX2 ▸ (Below.refl _ _).alloc (Nat.le_refl _) _
  have ho2 : ByAt W2 W1.heap.size 24 zeros := newBy W1 W2 (by rw [← hX2]; rfl)
  rw [hz1] at ho2
  have HB := hide (thenB hB1 hB2)
  have HO1 := hide (ho1.keep hB2)
  have HO2 := hide ho2
  clear hX1 hX2 hB1 hB2 ho1 ho2 hz1
  go_upto_region 2 with fail
  refine wp_region_lit ?_
  refine wpList_plain rfl fun Kt hKt => ?_
  go_simp
  refine hKt _ _ ?_
  clear hKt Kt
  refine wpList_bload rfl 24 (.tmp 6) rfl w.heap.size rfl _ Tryd.underlying24 rfl 32 info32 _ d (unhide HO1) (unhide HD).len ?_
  rw [show dv d = .agg cd by rw [unhide HCD]]
  go_wp2_with fail
  rw [unhide HCD]
  refine (leaf_any W2 hb d ((unhide HH).keep (unhide HB)) (unhide HD) ((unhide HT).keep (unhide HB))).mono ?_; rintro x W3 ⟨rfl, hB3⟩
  have HB3 := hide (thenB (unhide HB) hB3)
  have HO3 := hide ((unhide HO2).keep hB3)
  clear hB3
  dsimp only
  rename_i KK hK
  refine hK _ _ ?_
  clear hK KK
  refine wpList_bstore rfl 24 (.tmp 10) (.tmp 17) rfl (w.heap.size + 1) rfl (leafP d) rfl 32 info32 (dg_hash _).len _ zeros (unhide HO3) rfl ?_
  intro W9 HW9 HG
  go_wp2_with fail
  try simp only [Exit.inBlock, Exit.then]
  exact bret rfl rfl (w.heap.size + 1) rfl _ _ (unhide HW9) (dg_hash _).len ⟨rfl, (unhide HB3).grown (unhide HG) (unhide HB3).size (fun i e => by injection e with e; omega)⟩
end Go.Proofs.YtceppmajbkmbdaaDoor
