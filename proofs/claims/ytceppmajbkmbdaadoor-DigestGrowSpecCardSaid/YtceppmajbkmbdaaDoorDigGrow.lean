/- Contracts over the digest's program: Grow. -/
import Derived.Test.YtceppmajbkmbdaaDoorDigGWalk
namespace Go.Proofs.YtceppmajbkmbdaaDoor
set_option linter.unusedSimpArgs false
set_option linter.unusedVariables false
open Go.RowKit

theorem GK.to_below {base P : Nat} {w0 w w' : World} (hb : Below w0.heap.size w0 w) (h : GK base P w w') (h1 : w0.heap.size ≤ base) (h2 : w0.heap.size ≤ P) : Below w0.heap.size w0 w' :=
  ⟨h.os.trans hb.os, h.tape.trans hb.tape, h.output.trans hb.output, Nat.le_trans hb.size h.size, fun k hk => (h.block k (by omega) (by omega)).trans (hb.block k hk)⟩
theorem ds_low {w : World} {A : Option Addr} {l : List (List Int)} (h : Ds w A l) (hl : l ≠ []) (B : Nat) (hB : w.heap.size ≤ B) : Low B w.heap.size A := fun a e => by
  obtain ⟨b, o, e2, hc⟩ := h.at_ hl
  rw [e] at e2
  injection e2 with e2
  subst e2
  obtain ⟨d, r, rfl⟩ := List.exists_cons_of_ne_nil hl
  have hd := (h.dg d List.mem_cons_self).len
  have h0 := hc 0 d rfl 0 (.int .u8 (d[0]'(by omega))) (by rw [List.getElem?_map, List.getElem?_eq_getElem (by omega)]; rfl)
  have hlt : b < w.heap.size := lt_of_cell h0
  exact ⟨by show b < B; omega, by show b ≠ _; omega⟩

set_option maxRecDepth 100000 in
set_option maxHeartbeats 2000000 in
theorem Grow_ok (l : List (List Int)) (n : Nat) (A : Option Addr) (c : Nat) (w : World) (hA : Ds w A l) (hc : l.length ≤ c) (h63 : l.length ≤ 100000000) (h1 : 1 ≤ n) (hn : n ≤ l.length) (hT : DTab w) :
    Calls Tryd.prog 22 #[.slice A l.length c, .int .i64 (n : Int)] w fun x w' => (∃ v, x = .returned (.tuple #[v, .int .i64 0]) ∧ OwnD w' w.heap.size v (growP l n true)) ∧ Below w.heap.size w w' := by
  obtain ⟨m, hm⟩ : ∃ m, m = l.length := ⟨_, rfl⟩
  have hne : l ≠ [] := fun e => by rw [e] at hn; simp at hn; omega
  have hsp := (growP_spec l.length l n true rfl h1 hn).2
  have HT := hide hT
  have HA := hide hA
  have HN : Hid (m = l.length ∧ m ≤ c ∧ m ≤ 100000000 ∧ 1 ≤ n ∧ n ≤ m ∧ l ≠ []) := ⟨hm, by omega, by omega, h1, by omega, hne⟩
  have HSP := hide hsp
  have i1 : ¬ (n : Int) < 1 := by omega
  have i2 : ¬ (m : Int) < (n : Int) := by omega
  rw [← hm]
  have hmf : ∀ (fn : Fn) (first cap : Array Value) (w : World), (Instr.makeFunc fn first cap).run Tryd.prog w = .ok (.func fn first cap) w := fun _ _ _ _ => rfl
  clear hT hA hm hc h63 h1 hn hne hsp
  go_enter Tryd.func22, Tryd.ntmps22
  go_upto_region 1 with fail
  generalize hX1 : w.alloc _ = W1
  have hB1 : Below w.heap.size w W1 := hX1 ▸ (Below.refl _ _).alloc (Nat.le_refl _) _
  have hp1 : PB W1 w.heap.size (.slice none 0 0) := by
    rw [← hX1]
    show (w.heap.push _)[w.heap.size]? = _
    rw [Array.getElem?_push_size]
  have HB1 := hide hB1
  have HP1 := hide hp1
  clear hX1 hB1 hp1
  go_wp2_with fail
  refine (newHasher_any W1 ((unhide HT).keep (unhide HB1))).mono ?_; rintro x W2 ⟨rfl, hB2⟩
  obtain ⟨cs, hcs⟩ : ∃ cs, cs = ((LT ++ NT).map (Value.int .u8)).toArray := ⟨_, rfl⟩
  rw [show dv (LT ++ NT) = .agg cs by rw [hcs]]
  have HCS := hide hcs
  have HB2 := hide (thenB (unhide HB1) hB2)
  have HP2 := hide ((unhide HP1).later hB2)
  clear hB2 hcs i1 i2 HB1 HP1
  dsimp only
  rename_i KK hK
  refine hK _ _ ?_
  clear hK KK
  refine wpList_plain rfl fun Kt hKt => ?_
  go_simp
  refine hKt _ _ ?_
  clear hKt Kt
  generalize hX3 : W2.alloc _ = W3
  have hB3 : Below W2.heap.size W2 W3 := hX3 ▸ (Below.refl _ _).alloc (Nat.le_refl _) _
  have ho3 : ByAt W3 W2.heap.size 64 (List.replicate 64 0) := by
    rw [← hX3]
    show (W2.heap.push _)[W2.heap.size]? = _
    rw [Array.getElem?_push_size]
    rfl
  have HO3 := hide ho3
  have HB3 := hide (thenB (unhide HB2) hB3)
  have HP3 := hide ((unhide HP2).later hB3)
  have HZ : Hid (w.heap.size < W2.heap.size) := (unhide HP2).lt
  clear hX3 hB3 ho3 HB2 HP2
  refine wpList_bstore rfl 64 (.tmp 6) (.tmp 16) rfl W2.heap.size rfl (LT ++ NT) (show Value.agg cs = _ by rw [unhide HCS]) 64 info64 (by simp [LT_length, NT_length]) _ (List.replicate 64 0) (unhide HO3) rfl ?_
  intro W6 HW6 HG6
  have HB6 := hide ((unhide HB3).grown (unhide HG6) (unhide HB3).size (fun i e => by injection e with e; have := unhide HZ; omega))
  have HP6 := hide ((unhide HP3).grown (unhide HG6) (fun k hk => by injection hk with hk; have := unhide HZ; omega))
  obtain ⟨H, hH⟩ : ∃ H, H = W2.heap.size := ⟨_, rfl⟩
  rw [← hH] at HW6 HZ ⊢
  clear HG6 HO3 HB3 HP3 hH
  go_wp2_with fail
  generalize hX7 : W6.alloc _ = W7
  have hB7 : Below W6.heap.size W6 W7 := hX7 ▸ (Below.refl _ _).alloc (Nat.le_refl _) _
  have hf7 : W7.cell? ⟨W6.heap.size, 0, none⟩ = some (GwVal w.heap.size H W6.heap.size) := boxCell W6 W7 _ _ _ (by rw [← hX7]; rfl)
  have hz7 : W7.heap.size = W6.heap.size + 1 := by rw [← hX7]; show (W6.heap.push _).size = _; rw [Array.size_push]
  have hB07 := thenB (unhide HB6) hB7
  have hpre : GPre W7.heap.size w.heap.size H W6.heap.size W7 A c l n (.slice none 0 0) [] := by
    have hN := unhide HN
    have hZ := unhide HZ
    have hp := (unhide HP6).lt
    have hh := lt_of_block (unhide HW6)
    have ht := (unhide HT).top
    exact ⟨hN.2.2.2.1, by omega, by simp; omega, by omega, Nat.le_refl _, ⟨Nat.le_trans ht hB07.size, ht⟩, ⟨by omega, by omega, by omega, by omega, by omega⟩, ds_low (unhide HA) hN.2.2.2.2.2 _ hB07.size, (unhide HA).keep hB07, (unhide HW6).keep hB7, hf7, (unhide HT).keep hB07, (unhide HP6).later hB7, World.ownsRow_nil _ _ _ _, fun d hd => by simp at hd⟩
  have hcall := gwalk_any l.length W7.heap.size w.heap.size H W6.heap.size W7 A c l n true _ [] rfl hpre
  unfold GwIs at hcall
  rw [← (unhide HN).1, List.nil_append] at hcall
  have HB07 := hide hB07
  have HPL : Hid (w.heap.size < W7.heap.size) := ((unhide HP6).later hB7).lt
  clear hX7 hB7 hf7 hz7 hpre HB6 HP6 HW6 hmf hB07
  refine hcall.mono ?_; rintro x W8 ⟨rfl, hg8, v8, hp8, ho8⟩
  obtain ⟨A8, c8, hv8, _⟩ := own_form ho8 (unhide HSP)
  obtain ⟨len8, hl8⟩ : ∃ z, z = (growP l n true).length := ⟨_, rfl⟩
  rw [← hl8] at hv8
  subst hv8
  have HG8 := hide hg8; have HP8 := hide hp8; have HO8 := hide ho8
  have hcP := hp8.cell
  have hcF := hp8.free
  clear hcall hg8 hp8 ho8 hl8
  go_wp2_with fail
  try simp only [Exit.inBlock, Exit.then]
  have hcP2 := ((unhide HP8).put (.slice A8 len8 c8)).cell
  refine bodyPost_ret (v := .tuple #[.slice A8 len8 c8, .int .i64 0]) ?_ rfl ?_
  · rw [results_cell_tmp rfl]
    go_simp
  · refine ⟨⟨_, rfl, (OwnD.put (unhide HO8) ?_).down (unhide HB07).size⟩, GK.to_below (unhide HB07) ((unhide HG8).trans (PB.gk _)) (unhide HB07).size (Nat.le_refl _)⟩
    exact unhide HPL
end Go.Proofs.YtceppmajbkmbdaaDoor
