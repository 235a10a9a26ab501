/- A contract over the digest's program: turnAndMove, for all lanes; the tables. -/
import Derived.Test.YtceppmajbkmbdaaDoorDigPure
namespace Go.Proofs.YtceppmajbkmbdaaDoor
set_option linter.unusedSimpArgs false
set_option linter.unusedVariables false
open Go.RowKit

abbrev gTop : Nat := max (max 0 1) 2 + 1
/-- the tables as their initialisers lay them -/
structure DTab (w : World) : Prop where
  c : ∀ i, i < 24 → w.cell? ⟨0, i, none⟩ = some (.int .u64 (constT.getD i 0))
  p : ∀ i, i < 24 → w.cell? ⟨1, i, none⟩ = some (.int .i64 ((placeAt i : Nat) : Int))
  t : ∀ i, i < 24 → w.cell? ⟨2, i, none⟩ = some (.int .i64 ((turnAt i : Nat) : Int))
  top : gTop ≤ w.heap.size
theorem cell_block {w w' : World} {b : Nat} (h : w'.heap[b]? = w.heap[b]?) (i : Nat) : w'.cell? ⟨b, i, none⟩ = w.cell? ⟨b, i, none⟩ := by
  simp [World.cell?, h]
theorem DTab.grown {w w' : World} (h : DTab w) {b : Nat} (hb : gTop ≤ b) (hg : w.grownBy w' (some b)) : DTab w' := by
  have key : ∀ g, g < gTop → ∀ i, w'.cell? ⟨g, i, none⟩ = w.cell? ⟨g, i, none⟩ := fun g hg' i => cell_block (hg.block g (Nat.lt_of_lt_of_le hg' h.top) (fun e => by injection e with e; omega)) i
  exact ⟨fun i hi => (key _ (by decide) i).trans (h.c i hi), fun i hi => (key _ (by decide) i).trans (h.p i hi), fun i hi => (key _ (by decide) i).trans (h.t i hi), Nat.le_trans h.top hg.size⟩
theorem DTab.keep {w w' : World} (h : DTab w) (hg : Below w.heap.size w w') : DTab w' := by
  have key : ∀ g, g < gTop → ∀ i, w'.cell? ⟨g, i, none⟩ = w.cell? ⟨g, i, none⟩ := fun g hg' i => cell_block (hg.block g (Nat.lt_of_lt_of_le hg' h.top)) i
  exact ⟨fun i hi => (key _ (by decide) i).trans (h.c i hi), fun i hi => (key _ (by decide) i).trans (h.p i hi), fun i hi => (key _ (by decide) i).trans (h.t i hi), Nat.le_trans h.top hg.size⟩

set_option maxRecDepth 100000 in
set_option maxHeartbeats 4000000 in
theorem turn_any (w : World) (b : Nat) (t : TypeId) (f : Nat → Int) (rest : List Value) (h : SpAt w b t f rest) (hT : DTab w) (hb : gTop ≤ b) :
    Calls Tryd.prog 102 #[.pointer (some ⟨b, 0, none⟩)] w fun e w' => e = .returned (.tuple #[]) ∧ SpAt w' b t (turnF f 24) rest ∧ w.grownBy w' (some b) := by
  have HH := hide h
  have HT := hide hT
  have k1 := h.cell (j := 1) (by omega)
  clear h hT
  go_enter Tryd.func102, Tryd.ntmps102
  go_wp2_with fail
  clear k1
  go_loopg [2, 9] 24 (fun g m y wx => ∃ k : Nat, g + k = 24 ∧ m = .int .u64 (f (prevAt k)) ∧ y = .int .i64 (k : Int) ∧ SpAt wx b t (turnF f k) rest ∧ w.grownBy wx (some b))
  case atStart => exact ⟨0, rfl, rfl, rfl, (unhide HH).fn fun j _ => by simp [turnF], World.grownBy.refl _ _⟩
  case round =>
    obtain ⟨k, hk, rfl, rfl, hS, hg⟩ := hrel
    have HG := hide hg
    have HS := hide hS
    cases gk with
    | zero =>
      have hk5 : k = 24 := by omega
      subst hk5
      clear hS hg
      go_wp2_with fail
      exact bodyPost_end (v := .tuple #[]) (by simp [results, Tryd.results102, go_sem]) rfl ⟨rfl, unhide HS, unhide HG⟩
    | succ g =>
      have hkn : k < 24 := by omega
      have hyt : (k : Int) < 24 := by omega
      have hy0 : (0 : Int) ≤ (k : Int) := Int.natCast_nonneg _
      obtain ⟨W, hW⟩ : ∃ W, W = wr.drewN 1 := ⟨_, rfl⟩
      have HW : Hid (W = wr.drewN 1) := hW
      have hTr := (unhide HT).grown hb hg
      have hTW := hTr.keep (below_named HW)
      have hSW := hS.keep (below_named HW)
      obtain ⟨p, hp⟩ : ∃ p, p = placeAt k := ⟨_, rfl⟩
      obtain ⟨r, hr⟩ : ∃ r, r = turnAt k := ⟨_, rfl⟩
      have hp25 : p < 25 := hp ▸ placeAt_lt k hkn
      have hr64 : r < 64 := hr ▸ turnAt_lt k hkn
      have hpi : (p : Int) < 25 := by omega
      have hp0 : (0 : Int) ≤ (p : Int) := Int.natCast_nonneg _
      have cp := hTr.p k hkn
      have ct := hTW.t k hkn
      rw [← hp] at cp
      rw [← hr] at ct
      have cl := hSW.cell (j := p) hp25
      have q0 := hSW.free p
      have e1 : turnF f k p = f (prevAt (k + 1)) := hp ▸ turnF_next f k hkn
      rw [e1] at cl
      obtain ⟨z, hz⟩ : ∃ z, z = prevAt (k + 1) := ⟨_, rfl⟩
      rw [← hz] at cl
      have HP : Hid (p = placeAt k ∧ r = turnAt k ∧ k < 24 ∧ z = prevAt (k + 1)) := ⟨hp, hr, hkn, hz⟩
      clear hW hTr hTW hSW hp hr hS hg hkn e1 hp25 hz
      go_wp2_with fail
      refine still_drew 14 W HW (by kernel_rfl) (by kernel_rfl) ?_
      simp only [List.take_succ_cons, List.take_zero, List.drop_succ_cons, List.drop_zero]
      repeat still_step
      still_call (rot_any _ r hr64 _)
      repeat still_step
      refine wpStill_nil ?_
      go_wp2_with fail
      go_roundg g
      case measure => omega
      case rel =>
        obtain ⟨rfl, rfl, hk24, rfl⟩ := unhide HP
        exact ⟨k + 1, by omega, rfl, rfl, (((unhide HS).keep (below_named HW)).set (placeAt_lt k hk24) _).fn fun j hj => turnF_step f k hk24 j hj, grownSet (World.grownBy.trans (unhide HG) (belowGrown b (below_named HW))) _ _⟩
end Go.Proofs.YtceppmajbkmbdaaDoor
