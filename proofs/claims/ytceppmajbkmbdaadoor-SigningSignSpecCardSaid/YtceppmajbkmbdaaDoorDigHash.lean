/- A contract over the digest's program: hash, for all parts. -/
import Derived.Test.YtceppmajbkmbdaaDoorDigFin
namespace Go.Proofs.YtceppmajbkmbdaaDoor
set_option linter.unusedSimpArgs false
set_option linter.unusedVariables false
open Go.RowKit

/-- bytes behind an address -/
structure Bt (w : World) (A : Option Addr) (l : List Int) : Prop where
  byt : ∀ c ∈ l, Byt c
  at_ : l ≠ [] → ∃ b o, A = some ⟨b, o, none⟩ ∧ ∀ j, j < l.length → w.cell? ⟨b, o + j, none⟩ = some (.int .u8 (l.getD j 0))
theorem Bt.nil {w : World} {A : Option Addr} : Bt w A [] := ⟨fun c hc => (List.not_mem_nil hc).elim, fun h => absurd rfl h⟩
theorem Bt.keep {w w' : World} {A : Option Addr} {l : List Int} (h : Bt w A l) (hg : Below w.heap.size w w') : Bt w' A l := by
  refine ⟨h.byt, fun hl => ?_⟩
  obtain ⟨b, o, e, hc⟩ := h.at_ hl
  refine ⟨b, o, e, fun j hj => ?_⟩
  have hj' := hc j hj
  have hlt := lt_of_cell hj'
  rw [cell_block (hg.block b hlt)]
  exact hj'
theorem Bt.bs {w : World} {A : Option Addr} {l : List Int} (h : Bt w A l) {nb : Nat} (hn : w.heap.size ≤ nb) {wx : World} (hb : Below w.heap.size w wx) : Bs wx nb A l := by
  have h' := h.keep hb
  refine ⟨h.byt, fun hl => ?_⟩
  obtain ⟨b, o, e, hc⟩ := h'.at_ hl
  obtain ⟨b1, o1, e1, hc1⟩ := h.at_ hl
  rw [e] at e1; injection e1 with e1; injection e1 with e1 e2
  subst e1 e2
  have hlt : b < w.heap.size := lt_of_cell (hc1 0 (List.length_pos_iff.2 hl))
  exact ⟨b, o, e, by omega, hc⟩
/-- a part of a message: a slice of bytes -/
structure Part where
  A : Option Addr
  l : List Int
  c : Nat
def Part.val (p : Part) : Value := .slice p.A p.l.length p.c
def Part.ok (w : World) (p : Part) : Prop := Bt w p.A p.l ∧ p.l.length ≤ p.c
def joined (ps : List Part) : List Int := ps.flatMap Part.l
theorem joined_take (ps : List Part) (k : Nat) (p : Part) (h : ps[k]? = some p) : joined (ps.take (k + 1)) = joined (ps.take k) ++ p.l := by
  unfold joined
  obtain ⟨hk, he⟩ := List.getElem?_eq_some_iff.1 h
  rw [List.take_succ_eq_append_getElem hk, List.flatMap_append, he]
  simp

set_option maxRecDepth 100000 in
set_option maxHeartbeats 4000000 in
theorem hash_any (w : World) (pb po c : Nat) (ps : List Part) (hp : ∀ k p, ps[k]? = some p → w.cell? ⟨pb, po + k, none⟩ = some p.val) (ho : ∀ p ∈ ps, p.ok w) (hl : ps.length ≤ 1000) (hT : DTab w) :
    Calls Tryd.prog 82 #[.slice (some ⟨pb, po, none⟩) ps.length c] w fun e w' => e = .returned (dv (hashF (joined ps))) ∧ Below w.heap.size w w' := by
  have HT := hide hT
  have HP := hide hp
  have HO := hide ho
  obtain ⟨n, hn⟩ : ∃ n, n = ps.length := ⟨_, rfl⟩
  have HN := hide hn
  rw [← hn] at hl ⊢
  clear hT hp ho hn
  go_enter Tryd.func82, Tryd.ntmps82
  go_upto_region 2 with fail
  generalize hX : World.alloc _ _ = W0
  obtain ⟨N, hN⟩ : ∃ N, N = w.heap.size := ⟨_, rfl⟩
  obtain ⟨b, hb⟩ : ∃ b, b = w.heap.size + 1 := ⟨_, rfl⟩
  rw [← hN, show N + 1 = b by omega]
  rw [← hX] at *
  generalize hX1 : w.alloc _ = W1 at hX ⊢
  generalize hX2 : W1.alloc _ = W0 at hX ⊢
  have hB1 : Below w.heap.size w W1 := hX1 ▸ (Below.refl _ _).alloc (Nat.le_refl _) _
  have hz1 : W1.heap.size = w.heap.size + 1 := by rw [← hX1]; show (w.heap.push _).size = _; simp
  have hB2 : Below W1.heap.size W1 W0 := hX2 ▸ (Below.refl _ _).alloc (Nat.le_refl _) _
  have hO1 : ByAt W1 N 24 (List.replicate 32 0) := by
    rw [← hX1, hN]
    show (w.heap.push _)[w.heap.size]? = _
    rw [Array.getElem?_push_size]
    rfl
  have hS : SpQ W0 b (fun _ => 0, []) := by
    refine ⟨by decide, List.replicate 136 0, rfl, ⟨rfl, fun c hc => by rw [(List.mem_replicate.1 hc).2]; exact ⟨by omega, by omega⟩, ?_⟩⟩
    have e : b = W1.heap.size := by omega
    rw [← hX2, e]
    show (W1.heap.push _)[W1.heap.size]? = _
    rw [Array.getElem?_push_size]
    kernel_rfl
  have hB0 := thenB hB1 hB2
  have hO0 := hO1.keep hB2
  have hT0 := (unhide HT).keep hB0
  have hbt : gTop ≤ b := by have := (unhide HT).top; omega
  have hbN : N ≠ b := by omega
  have HB0 := hide hB0
  have HO0 := hide hO0
  have HS0 := hide hS
  have HT0 := hide hT0
  have Hb : Hid (w.heap.size ≤ b ∧ N = w.heap.size) := ⟨by omega, hN⟩
  clear hX hX1 hX2 hB1 hz1 hB2 hO1 hS hB0 hO0 hT0 hN hb
  go_wp2_with fail
  go_loopg [8] n (fun g y wx => ∃ k : Nat, g + k = n ∧ y = .int .i64 (k : Int) ∧ SpQ wx b (runS (fun _ => 0, []) (joined (ps.take k))) ∧ W0.grownBy wx (some b))
  case atStart => exact ⟨0, rfl, rfl, by simpa [joined, runS] using unhide HS0, World.grownBy.refl _ _⟩
  case round =>
    obtain ⟨k, hk, rfl, hS, hg⟩ := hrel
    have HG := hide hg
    have HS := hide hS
    have hBx : Below w.heap.size w wr := (unhide HB0).trans ⟨hg.os, hg.tape, hg.output, hg.size, fun i hi => hg.block i (Nat.lt_of_lt_of_le hi (unhide HB0).size) (fun e => by injection e with e; have := (unhide Hb).1; omega)⟩
    have HBx := hide hBx
    cases gk with
    | zero =>
      have hk5 : k = n := by omega
      subst hk5
      have hkk : ¬ (k : Int) < (k : Int) := by omega
      clear hS hg hBx
      go_upto_region 7 with fail
      refine wp_region_list ?_
      go_wp2_with fail
      refine (finish_any wr b _ (unhide HS) ((unhide HT0).grown hbt (unhide HG)) hbt).mono ?_; rintro e w7 ⟨rfl, hg7⟩
      have hg8 := (unhide HG).trans hg7
      have hO := (unhide HO0).grown hg8 hbN
      have hB8 : Below w.heap.size w w7 := (unhide HBx).trans ⟨hg7.os, hg7.tape, hg7.output, hg7.size, fun i hi => hg7.block i (Nat.lt_of_lt_of_le hi (unhide HBx).size) (fun e => by injection e with e; have := (unhide Hb).1; omega)⟩
      have hm : joined (ps.take k) = joined ps := by rw [List.take_of_length_le (Nat.le_of_eq (unhide HN).symm)]
      rw [hm]
      obtain ⟨l, hl⟩ : ∃ l, l = hashF (joined ps) := ⟨_, rfl⟩
      have hol : l.length = 32 := by rw [hl]; exact hashF_length _
      have HLF : Hid (l = hashF (joined ps)) := hl
      rw [show outF (absF (runS (fun _ => 0, []) (joined ps)).1 (padB (runS (fun _ => 0, []) (joined ps)).2)) = l from hl.symm]
      have hcl : (l.map (Value.int .u8)).length = 32 := by simpa using hol
      have hi : (Tryd.prog.info? 24).map (·.size) = some (l.map (Value.int .u8)).length := by rw [hcl]; kernel_rfl
      have h1 : (l.map (Value.int .u8)).toArray.all (·.oneCell') = true := all_oneCell_toArray fun v hv => by obtain ⟨x, _, rfl⟩ := List.mem_map.1 hv; rfl
      have hth : w7.there N 0 (l.map (Value.int .u8)).length := fun j hj => by
        rw [Nat.zero_add]
        exact ⟨by rw [hO.cell (j := j) (by rw [hcl] at hj; simpa using hj)]; rfl, hO.free j⟩
      obtain ⟨W9, hW9⟩ : ∃ W9, W9 = w7.setCells N 0 (l.map (Value.int .u8)) := ⟨_, rfl⟩
      have HR : Hid (W9.rangeAt N 0 (l.map (Value.int .u8))) := hW9 ▸ World.rangeAt_setCells_same w7 N 0 _ hth
      have HG9 : Hid (Below w.heap.size w W9) := hW9 ▸ hB8.grown (grownSetCells N _ _ w7) hB8.size (fun i e => by injection e with e; have := (unhide Hb).2; omega)
      have HI := hide hi
      have HTH := hide hth
      have H1 := hide h1
      clear hg8 hO hB8 hm hl hol hcl hi h1 hth hg7
      dsimp only
      rename_i KK hK
      refine hK _ _ ?_
      clear hK
      refine wpList_store_mid rfl 24 (.tmp 2) (.tmp 15) rfl N 0 (l.map (Value.int .u8)).toArray rfl rfl (by simpa using unhide HTH) (by simpa using unhide HI) (unhide H1) ?_
      rw [show (l.map (Value.int .u8)).toArray.toList = l.map (Value.int .u8) from rfl, ← hW9]
      clear hW9
      go_wp2_with fail
      try simp only [Exit.inBlock, Exit.then]
      refine bodyPost_ret (v := dv l) ?_ ?_ ?_
      · exact results_cell_mid rfl _ _ N (l.map (Value.int .u8)) _ rfl (unhide HR) Tryd.underlying24 rfl (unhide HI)
      · rfl
      · exact ⟨by rw [unhide HLF], unhide HG9⟩
    | succ g =>
      have hkn : k < ps.length := by have := unhide HN; omega
      have hyt : (k : Int) < (n : Int) := by omega
      have hyM : (k : Int) ≤ 1000 := by omega
      have hy0 : (0 : Int) ≤ (k : Int) := Int.natCast_nonneg _
      obtain ⟨p, hp⟩ : ∃ p, ps[k]? = some p := ⟨_, List.getElem?_eq_getElem hkn⟩
      have hpo := (unhide HO) p (List.mem_of_getElem? hp)
      have hc := (unhide HP) k p hp
      rw [← hBx.cell (p := ⟨pb, po + k, none⟩) (lt_of_cell hc)] at hc
      have HPO := hide hpo
      have HPK := hide hp
      clear hS hg hBx hpo hp hkn
      unfold Part.val at hc
      go_wp2_with fail
      refine (write_any wr b _ p.A p.c p.l ((unhide HPO).1.bs (unhide Hb).1 (unhide HBx)) (unhide HS) ((unhide HT0).grown hbt (unhide HG)) hbt (unhide HPO).2).mono ?_; rintro e w2 ⟨rfl, hS2, hg2⟩
      have HS2 := hide hS2
      have HG2 := hide ((unhide HG).trans hg2)
      clear hS2 hg2
      go_wp2_with fail
      go_roundg g
      case measure => omega
      case rel => exact ⟨k + 1, by omega, by push_cast; rfl, by rw [joined_take ps k p (unhide HPK), runS_append]; exact unhide HS2, unhide HG2⟩
end Go.Proofs.YtceppmajbkmbdaaDoor
