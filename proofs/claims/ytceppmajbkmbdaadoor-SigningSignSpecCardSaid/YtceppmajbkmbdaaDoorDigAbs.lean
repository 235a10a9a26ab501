/- A contract over the digest's program: absorb. The sponge in memory. -/
import Derived.Test.YtceppmajbkmbdaaDoorDigPerm
import Derived.Test.YtceppmajbkmbdaaDoorDigLoad
import Derived.Deep.RegionHeld3
namespace Go.Proofs.YtceppmajbkmbdaaDoor
set_option linter.unusedSimpArgs false
set_option linter.unusedVariables false
open Go.RowKit

def Byt (c : Int) : Prop := 0 ≤ c ∧ c < 256
def sgRest (B : List Int) (n : Int) : List Value := B.map (Value.int .u8) ++ [.int .i64 n]
structure SgAt (w : World) (b : Nat) (f : Nat → Int) (B : List Int) (n : Int) : Prop where
  len : B.length = 136
  byt : ∀ c ∈ B, Byt c
  at_ : SpAt w b 108 f (sgRest B n)
theorem getD_mem {B : List Int} {m : Nat} (h : m < B.length) : B.getD m 0 ∈ B := by
  rw [List.getD_eq_getElem?_getD, List.getElem?_eq_getElem h]
  exact List.getElem_mem h
theorem sgRest_byte (B : List Int) (n : Int) (m : Nat) (h : m < B.length) : (sgRest B n)[m]? = some (.int .u8 (B.getD m 0)) := by
  unfold sgRest
  rw [List.getElem?_append_left (by simpa using h), List.getElem?_map, List.getD_eq_getElem?_getD, List.getElem?_eq_getElem h]
  rfl
theorem sgRest_fill (B : List Int) (n : Int) : (sgRest B n)[B.length]? = some (.int .i64 n) := by
  unfold sgRest
  rw [List.getElem?_append_right (by simp)]
  simp
theorem SgAt.byte {w : World} {b : Nat} {f : Nat → Int} {B : List Int} {n : Int} (h : SgAt w b f B n) (m : Nat) (hm : m < 136) : w.cell? ⟨b, 25 + m, none⟩ = some (.int .u8 (B.getD m 0)) :=
  (h.at_.rcell m).trans (sgRest_byte B n m (by rw [h.len]; exact hm))
theorem SgAt.fill {w : World} {b : Nat} {f : Nat → Int} {B : List Int} {n : Int} (h : SgAt w b f B n) : w.cell? ⟨b, 161, none⟩ = some (.int .i64 n) := by
  have := h.at_.rcell 136
  rw [show (25 + 136 : Nat) = 161 from rfl] at this
  rw [this]
  exact h.len ▸ sgRest_fill B n
theorem SgAt.range {w : World} {b : Nat} {f : Nat → Int} {B : List Int} {n : Int} (h : SgAt w b f B n) (m : Nat) (hm : m < 136) : Byt (B.getD m 0) := h.byt _ (getD_mem (by rw [h.len]; exact hm))
theorem SgAt.free {w : World} {b : Nat} {f : Nat → Int} {B : List Int} {n : Int} (h : SgAt w b f B n) (m : Nat) : w.frozen? ⟨b, m, none⟩ = false := h.at_.free m
theorem SgAt.keep {w w' : World} {b : Nat} {f : Nat → Int} {B : List Int} {n : Int} (h : SgAt w b f B n) (hb : Below w.heap.size w w') : SgAt w' b f B n := ⟨h.len, h.byt, h.at_.keep hb⟩
theorem SgAt.set {w : World} {b : Nat} {f : Nat → Int} {B : List Int} {n : Int} (h : SgAt w b f B n) {j : Nat} (hj : j < 25) (v : Int) : SgAt (w.setCell ⟨b, j, none⟩ (.int .u64 v)) b (upd f j v) B n := ⟨h.len, h.byt, h.at_.set hj v⟩
theorem SgAt.fn {w : World} {b : Nat} {f g : Nat → Int} {B : List Int} {n : Int} (h : SgAt w b f B n) (e : ∀ j, j < 25 → f j = g j) : SgAt w b g B n := ⟨h.len, h.byt, h.at_.fn e⟩
theorem lnCells_setR (n : Nat) (f : Nat → Int) (rest : List Value) (j : Nat) (v : Value) : (lnCells n f rest).setIfInBounds (n + j) v = lnCells n f (rest.set j v) := by
  unfold lnCells
  rw [List.setIfInBounds_toArray, List.set_append, if_neg (by simp)]
  congr 3
  simp
theorem sgRest_setByte (B : List Int) (n : Int) (m : Nat) (h : m < B.length) (v : Int) : (sgRest B n).set m (.int .u8 v) = sgRest (B.set m v) n := by
  unfold sgRest
  rw [List.set_append, if_pos (by simpa using h), List.map_set]
theorem sgRest_setFill (B : List Int) (n v : Int) : (sgRest B n).set B.length (.int .i64 v) = sgRest B v := by
  unfold sgRest
  rw [List.set_append, if_neg (by simp)]
  simp
theorem SgAt.setFill {w : World} {b : Nat} {f : Nat → Int} {B : List Int} {n : Int} (h : SgAt w b f B n) (v : Int) : SgAt (w.setCell ⟨b, 161, none⟩ (.int .i64 v)) b f B v := by
  refine ⟨h.len, h.byt, ?_⟩
  have := h.at_
  unfold SpAt LnAt at this ⊢
  rw [box_put this, show (161 : Nat) = 25 + 136 from rfl, lnCells_setR, ← h.len, sgRest_setFill]
theorem SgAt.setByte {w : World} {b : Nat} {f : Nat → Int} {B : List Int} {n : Int} (h : SgAt w b f B n) (m : Nat) (hm : m < 136) (v : Int) (hv : Byt v) : SgAt (w.setCell ⟨b, 25 + m, none⟩ (.int .u8 v)) b f (B.set m v) n := by
  refine ⟨by simpa using h.len, fun c hc => ?_, ?_⟩
  · rcases List.mem_or_eq_of_mem_set hc with h' | h'
    · exact h.byt c h'
    · exact h' ▸ hv
  · have := h.at_
    unfold SpAt LnAt at this ⊢
    rw [box_put this, lnCells_setR, sgRest_setByte B n m (by rw [h.len]; exact hm)]

def LaneIs (w : World) (b o c : Nat) (L : Int) : Prop := ∀ W, Below w.heap.size w W → Calls Tryd.prog 99 #[.slice (some ⟨b, o, none⟩) 8 c] W fun e w' => e = .returned (.int .u64 L) ∧ w' = W.drewN 1
theorem SgAt.laneIs {w : World} {b : Nat} {f : Nat → Int} {B : List Int} {n : Int} (h : SgAt w b f B n) (k : Nat) (hk : k < 17) (c : Nat) : LaneIs w b (25 + 8 * k) c (laneF fun i => B.getD (8 * k + i) 0) := fun W hW => by
  have h' := h.keep hW
  exact lane_any W b (25 + 8 * k) c (fun i => B.getD (8 * k + i) 0) (fun j hj => by rw [Nat.add_assoc]; exact h'.byte _ (by omega)) (fun j hj => h'.range _ (by omega))

set_option maxRecDepth 100000 in
set_option maxHeartbeats 4000000 in
theorem absorb_any (w : World) (b : Nat) (f : Nat → Int) (B : List Int) (n : Int) (h : SgAt w b f B n) (hT : DTab w) (hb : gTop ≤ b) :
    Calls Tryd.prog 96 #[.pointer (some ⟨b, 0, none⟩)] w fun e w' => e = .returned (.tuple #[]) ∧ SgAt w' b (absF f B) B 0 ∧ w.grownBy w' (some b) := by
  have HH := hide h
  have HT := hide hT
  clear h hT
  go_enter Tryd.func96, Tryd.ntmps96
  go_wp2_with fail
  go_loopg [3] 17 (fun g y wx => ∃ k : Nat, g + k = 17 ∧ y = .int .i64 (k : Int) ∧ SgAt wx b (addF f B k) B n ∧ w.grownBy wx (some b))
  case atStart => exact ⟨0, rfl, rfl, (unhide HH).fn fun j _ => rfl, World.grownBy.refl _ _⟩
  case round =>
    obtain ⟨k, hk, rfl, hS, hg⟩ := hrel
    have HG := hide hg
    have HS := hide hS
    cases gk with
    | zero =>
      have hk5 : k = 17 := by omega
      subst hk5
      clear hS hg
      go_wp2_with fail
      refine (perm_any wr b _ _ _ (unhide HS).at_ ((unhide HT).grown hb (unhide HG)) hb).mono ?_; rintro e w1 ⟨rfl, hS1, hg1⟩
      have hS1 : SgAt w1 b (absF f B) B n := ⟨(unhide HS).len, (unhide HS).byt, hS1⟩
      have c0 := hS1.fill
      have q0 := hS1.free 161
      have HS1 := hide hS1
      have HG1 := hide ((unhide HG).trans hg1)
      clear hS1 hg1 HS HG
      go_wp2_with fail
      exact bodyPost_end (v := .tuple #[]) (by simp [results, Tryd.results96, go_sem]) rfl ⟨rfl, (unhide HS1).setFill 0, grownSet (unhide HG1) _ _⟩
    | succ g =>
      have hkn : k < 17 := by omega
      have hyt : (k : Int) < 17 := by omega
      have hk25 : (k : Int) < 25 := by omega
      have hy0 : (0 : Int) ≤ (k : Int) := Int.natCast_nonneg _
      obtain ⟨lo, hlo⟩ : ∃ lo, lo = 8 * k := ⟨_, rfl⟩
      obtain ⟨hi, hhi⟩ : ∃ hi, hi = lo + 8 := ⟨_, rfl⟩
      obtain ⟨k1, hk1⟩ : ∃ k1, k1 = k + 1 := ⟨_, rfl⟩
      have w1 : IntKind.i64.wrap ((k : Int) * 8) = (lo : Int) := (IntWalk.i64_in _ (by omega)).trans (by omega)
      have w2 : IntKind.i64.wrap ((k : Int) + 1) = (k1 : Int) := (IntWalk.i64_in _ (by omega)).trans (by omega)
      have w3 : IntKind.i64.wrap ((k1 : Int) * 8) = (hi : Int) := (IntWalk.i64_in _ (by omega)).trans (by omega)
      have b1 : (0 : Int) ≤ (lo : Int) := Int.natCast_nonneg _
      have b2 : (lo : Int) ≤ (hi : Int) := by omega
      have b3 : (hi : Int) ≤ 136 := by omega
      have b4 : hi - lo = 8 := by omega
      have b5 : ¬ (136 = lo) := by omega
      have c0 := hS.at_.cell (j := k) (by omega)
      have e0 : addF f B k k = f k := if_neg (by omega)
      rw [e0] at c0
      have q0 := hS.free k
      obtain ⟨L, hL⟩ : ∃ L, L = laneF fun i => B.getD (8 * k + i) 0 := ⟨_, rfl⟩
      have HL := hide hL
      have HLa : Hid (LaneIs wr b (25 + lo) (136 - lo) L) := by rw [hL, hlo]; exact hS.laneIs k hkn _
      have HK1 := hide hk1
      clear hS hg hlo hhi hk1 e0 hL
      go_wp2_with fail
      go_region_with ((go_at_call 99; refine ((unhide HLa) _ (Below.drew (Below.refl _ _))).mono ?_; rintro e w' ⟨rfl, rfl⟩))
      all_goals go_wp2_with fail
      all_goals go_roundg g
      all_goals first | (case measure => omega) | skip
      all_goals exact ⟨k + 1, by omega, by rw [unhide HK1], (((unhide HS).keep (belowDrewN 2 (Below.refl _ _))).set (by omega) _).fn fun j _ => (by rw [unhide HL]; exact addF_step f B k j), grownSet (World.grownBy.trans (unhide HG) (belowGrown b (belowDrewN 2 (Below.refl _ _)))) _ _⟩
end Go.Proofs.YtceppmajbkmbdaaDoor
