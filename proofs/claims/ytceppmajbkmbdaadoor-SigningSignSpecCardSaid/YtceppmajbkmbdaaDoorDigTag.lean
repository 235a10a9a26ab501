/- Contracts over the digest's program: Tagged. -/
import Derived.Test.YtceppmajbkmbdaaDoorDigSum
import Derived.Lib.ConvBytes
namespace Go.Proofs.YtceppmajbkmbdaaDoor
set_option linter.unusedSimpArgs false
set_option linter.unusedVariables false
open Go.RowKit

/-- a string's bytes -/
def sb (s : ByteArray) : List Int := s.data.toList.map fun c => (c.toNat : Int)
theorem sb_length (s : ByteArray) : (sb s).length = s.size := by unfold sb; rw [List.length_map]; rfl
theorem sb_byt (s : ByteArray) : ∀ c ∈ sb s, Byt c := fun c hc => by
  obtain ⟨b, _, rfl⟩ := List.mem_map.1 hc
  exact ⟨Int.natCast_nonneg _, by have := b.toNat_lt; omega⟩
theorem conv_str (w : World) (s : ByteArray) : ∃ W C, (convert 9 22 (.string s)).run Tryd.prog w = .ok (.slice (some ⟨w.heap.size, 0, none⟩) (sb s).length C) W ∧ Below w.heap.size w W ∧ Bt W (some ⟨w.heap.size, 0, none⟩) (sb s) ∧ (sb s).length ≤ C := by
  refine ⟨Lib.bytesWorld w 5 s, grownCap w s.size 0 5, by rw [sb_length]; exact Lib.run_convert_string_bytes w 9 22 5 s Tryd.underlying9 Tryd.underlying22 Tryd.underlying5, ⟨rfl, rfl, rfl, ?_, fun k hk => Lib.bytesWorld_at_old w _ s k hk⟩, ⟨sb_byt s, fun _ => ⟨w.heap.size, 0, rfl, fun j hj => ?_⟩⟩, ?_⟩
  · rw [Lib.bytesWorld_size]; omega
  · rw [sb_length] at hj
    rw [Nat.zero_add, Lib.bytesWorld_cell w _ s j hj]
    have hj' : j < s.data.toList.length := hj
    unfold sb
    rw [List.getD_eq_getElem?_getD, List.getD_eq_getElem?_getD, List.getElem?_map, List.getElem?_eq_getElem hj']
    rfl
  · rw [sb_length]; exact grownCap_ge _ _ _ _

set_option maxRecDepth 100000 in
set_option maxHeartbeats 4000000 in
theorem tagged_any (w : World) (s : ByteArray) (A : Option Addr) (c : Nat) (l : List Int) (hA : Bt w A l) (hc : l.length ≤ c) (hT : DTab w) :
    Calls Tryd.prog 44 #[.string s, .slice A l.length c] w fun e w' => e = .returned (dv (tagF (sb s) l)) ∧ Below w.heap.size w w' := by
  have HT := hide hT
  have HA := hide hA
  have HC := hide hc
  clear hT hA hc
  go_enter Tryd.func44, Tryd.ntmps44
  go_upto_region 1 with fail
  generalize hX : w.alloc _ = W1
  have hB1 : Below w.heap.size w W1 := hX ▸ (Below.refl _ _).alloc (Nat.le_refl _) _
  have HO1 := hide (newBy w W1 (by rw [← hX]; rfl))
  have HB1 := hide hB1
  clear hX hB1
  obtain ⟨W2, C, hcv, hB2, hBt, hC⟩ := conv_str W1 s
  have HB2 := hide hB2
  have HBt := hide hBt
  have HC2 : Hid ((sb s).length ≤ C) := hC
  clear hB2 hBt hC
  refine wp_region_list ?_
  go_wp2_with fail
  have hB12 := thenB (unhide HB1) (unhide HB2)
  refine (hash_new W2 [⟨some ⟨W1.heap.size, 0, none⟩, sb s, C⟩] _ (fun p hp => by rw [List.mem_singleton.1 hp]; exact ⟨unhide HBt, unhide HC2⟩) (by simp) ((unhide HT).keep hB12)).mono ?_; rintro e w3 ⟨rfl, hB3⟩
  rw [show joined [⟨some ⟨W1.heap.size, 0, none⟩, sb s, C⟩] = sb s by simp [joined]]
  have HB3 := hide (thenB hB12 hB3)
  have HO3 := hide (((unhide HO1).keep (unhide HB2)).keep hB3)
  obtain ⟨D, hD⟩ : ∃ D, D = hashF (sb s) := ⟨_, rfl⟩
  have hDl : D.length = 32 := hD ▸ hashF_length (sb s)
  have HD := hide hD
  have HDl := hide hDl
  rw [← hD]
  clear hB12 hB3 hcv HB1 HB2 HBt HC2 HO1 hD hDl
  dsimp only
  rename_i KK hK
  refine hK _ _ ?_
  clear hK KK
  refine wpList_plain rfl fun K hK => ?_
  go_simp
  refine hK _ _ ?_
  clear hK K
  generalize hX : w3.alloc _ = W4
  have hB4 : Below w3.heap.size w3 W4 := hX ▸ (Below.refl _ _).alloc (Nat.le_refl _) _
  have hO4 : ByAt W4 w3.heap.size 24 zeros := newBy w3 W4 (by rw [← hX]; rfl)
  have HB4 := hide (thenB (unhide HB3) hB4)
  have HO4 := hide hO4
  have HO4' := hide ((unhide HO3).keep hB4)
  have hne : w3.heap.size ≠ w.heap.size := fun e => by have := lt_of_block (unhide HO3); omega
  have h3 : w.heap.size ≤ w3.heap.size := (unhide HB3).size
  clear hB4 hO4 hX HO3
  refine wpList_bstore rfl 24 (.tmp 5) (.tmp 9) rfl w3.heap.size rfl D rfl 32 info32 (unhide HDl) _ zeros (unhide HO4) rfl ?_
  intro W5 HO5 HG5
  have HB5 := hide ((unhide HB4).grown (unhide HG5) (unhide HB4).size (fun i e => by injection e with e; omega))
  have HO5' := hide ((unhide HO4').grown (unhide HG5) (fun e => hne e.symm))
  have HN : Hid (w.heap.size ≤ w3.heap.size) := h3
  clear HG5 HB4 HO4 HO4' HB3 hne h3
  go_upto_region 2 with fail
  refine wp_region_list ?_
  go_wp2_with fail
  have hD5 : Bt W5 (some ⟨w3.heap.size, 0, none⟩) D := ⟨unhide HDl |> fun _ => unhide HD ▸ hashF_byt _, fun _ => ⟨_, 0, rfl, fun j hj => by rw [Nat.zero_add]; exact (unhide HO5).cell hj⟩⟩
  have hpp : ∀ p ∈ [(⟨some ⟨w3.heap.size, 0, none⟩, D, 32⟩ : Part), ⟨A, l, c⟩], p.ok W5 := fun p hp => by
    rcases List.mem_cons.1 hp with rfl | hp
    · exact ⟨hD5, Nat.le_of_eq (unhide HDl)⟩
    · rw [List.mem_singleton.1 hp]; exact ⟨(unhide HA).keep (unhide HB5), unhide HC⟩
  have hh := hash_new W5 [⟨some ⟨w3.heap.size, 0, none⟩, D, 32⟩, ⟨A, l, c⟩] 22 hpp (by simp) ((unhide HT).keep (unhide HB5))
  rw [show joined [⟨some ⟨w3.heap.size, 0, none⟩, D, 32⟩, ⟨A, l, c⟩] = D ++ l by simp [joined]] at hh
  simp only [List.map_cons, List.map_nil, Part.val, unhide HDl] at hh
  refine hh.mono ?_; rintro e w6 ⟨rfl, hB6⟩
  have HB6 := hide (thenB (unhide HB5) hB6)
  have HO6 := hide ((unhide HO5').keep hB6)
  clear hB6 hh hpp hD5 HO5' HB5 HO5
  dsimp only
  rename_i KK hK
  refine hK _ _ ?_
  clear hK KK
  refine wpList_bstore rfl 24 (.tmp 4) (.tmp 13) rfl w.heap.size rfl (hashF (D ++ l)) rfl 32 info32 (hashF_length _) _ zeros (unhide HO6) rfl ?_
  intro W HW HG
  go_wp2_with fail
  try simp only [Exit.inBlock, Exit.then]
  exact bret rfl rfl w.heap.size rfl _ _ (unhide HW) (hashF_length _) ⟨by rw [unhide HD]; rfl, (unhide HB6).grown (unhide HG) (unhide HB6).size (fun i e => by injection e with e; omega)⟩
end Go.Proofs.YtceppmajbkmbdaaDoor
