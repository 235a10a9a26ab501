/- The reference's padding: a contract. -/
import Derived.Test.YtbclhieobhfdpaaDoorDigRSponge
import Derived.Test.YtbclhieobhfdpaaDoorDigApp
namespace Go.Proofs.YtbclhieobhfdpaaDoor
set_option linter.unusedSimpArgs false
set_option linter.unusedVariables false
open Go.RowKit

theorem OwnB.opened {w : World} {base : Nat} {v : Value} {l : List Int} (h : OwnB w base v l) (hl : l ≠ []) : ∃ g cap, v = .slice (some ⟨g, 0, none⟩) l.length cap ∧ base ≤ g ∧
    (∀ i, i < l.length → w.cell? ⟨g, i, none⟩ = some (.int .u8 (l.getD i 0)) ∧ w.frozen? ⟨g, i, none⟩ = false) ∧ ∀ i c, i < l.length → OwnB (w.setCell ⟨g, i, none⟩ (.int .u8 c)) base v (l.set i c) := by
  have hh := h
  rcases h.2 with ⟨rfl, h0⟩ | ⟨g, cap, cur, rfl, hbg, hg, h1, h2, h3, h4⟩
  · exact absurd (List.length_eq_zero_iff.1 h0) hl
  · refine ⟨g, cap, rfl, hbg, fun i hi => ⟨?_, ?_⟩, fun i c hi => ?_⟩
    · rw [hh.cellAt i (by omega), List.getElem?_map, List.getD_eq_getElem?_getD, List.getElem?_eq_getElem hi]
      rfl
    · simp [World.frozen?, hg]
    · refine ⟨by rw [List.length_map, List.length_set]; omega, .inr ⟨g, cap, cur.setIfInBounds i (.int .u8 c), by rw [List.length_set], hbg, box_put hg, by rw [List.length_set]; exact h1, h2, by rw [Array.size_setIfInBounds]; exact h3, ?_⟩⟩
      rw [List.length_set, Array.toList_setIfInBounds, List.take_set, h4, List.map_set]
theorem grown_one' (W : World) (b i : Nat) (v : Value) : W.grownBy (W.setCell ⟨b, i, none⟩ v) (some b) := grownSet (w := W) ⟨rfl, rfl, rfl, Nat.le_refl _, fun _ _ _ => rfl⟩ _ _
theorem pad_byt (l : List Int) (h : ∀ c ∈ l, Byt c) (t : Nat) : ∀ c ∈ l ++ 6 :: List.replicate t 0, Byt c := by
  intro c hc
  rcases List.mem_append.1 hc with hc | hc
  · exact h c hc
  · rcases List.mem_cons.1 hc with rfl | hc
    · exact ⟨by decide, by decide⟩
    · rw [List.eq_of_mem_replicate hc]; exact ⟨by decide, by decide⟩
theorem pad_next (l : List Int) (t : Nat) : (l ++ 6 :: List.replicate t 0) ++ [0] = l ++ 6 :: List.replicate (t + 1) (0 : Int) := by
  rw [List.append_assoc, List.cons_append, List.replicate_succ']
theorem pad_len (l : List Int) (t : Nat) : (l ++ 6 :: List.replicate t (0 : Int)).length = l.length + 1 + t := by
  rw [List.length_append, List.length_cons, List.length_replicate]; omega
/-- a row of one byte, just made -/
theorem one_bt (w W : World) (c : Int) (hc : Byt c) (h : W = w.alloc (.cells #[.int .u8 c] 5)) : Bt W (some ⟨w.heap.size, 0, none⟩) [c] := by
  refine ⟨fun d hd => by rw [List.mem_singleton.1 hd]; exact hc, fun _ => ⟨w.heap.size, 0, rfl, fun j hj => ?_⟩⟩
  obtain rfl : j = 0 := by simpa using hj
  have hb : W.heap[w.heap.size]? = some (.cells #[.int .u8 c] 5 (0, 0)) := by
    rw [h]
    show (w.heap.push _)[w.heap.size]? = _
    rw [Array.getElem?_push_size]
  simp [World.cell?, hb]
set_option maxRecDepth 100000 in
set_option maxHeartbeats 2000000 in
theorem rpadded_any (w : World) (A : Option Addr) (c : Nat) (l : List Int) (hA : Bt w A l) (hc : l.length ≤ c) (hn : A = none → c = 0) (hl : l.length ≤ 900000000) :
    Calls Tryd.prog 30 #[.slice A l.length c] w fun x w' => ∃ v, x = .returned v ∧ OwnB w' w.heap.size v (padR l) ∧ Below w.heap.size w w' := by
  obtain ⟨n, hnl⟩ : ∃ n, n = l.length := ⟨_, rfl⟩
  have HA := hide hA
  have HL : Hid (n = l.length ∧ l.length ≤ 900000000) := ⟨hnl, hl⟩
  have HNn := hide hn
  obtain ⟨z, hz⟩ : ∃ z, z = (136 - (l.length + 1) % 136) % 136 := ⟨_, rfl⟩
  have HZ : Hid (z < 136 ∧ (l.length + 1 + z) % 136 = 0 ∧ ∀ t, t < z → (l.length + 1 + t) % 136 ≠ 0) := ⟨by omega, by omega, fun t ht => by omega⟩
  rw [← hnl]
  clear hnl hl hA hn hz hc
  go_enter Tryd.func30, Tryd.ntmps30
  go_upto_region 1 with fail
  refine wp_region_lit ?_
  refine wpList_plain rfl fun Kt hKt => ?_
  go_simp
  refine hKt _ _ ?_
  clear hKt Kt
  generalize hX : w.alloc _ = W1
  have hb1 : Below w.heap.size w W1 := hX ▸ (Below.refl _ _).alloc (Nat.le_refl _) _
  have hown1 : OwnB W1 w.heap.size (.slice (some ⟨w.heap.size, 0, none⟩) 0 0) [] := hX ▸ World.ownsRow_lit w #[] 0 (Nat.le_refl _) (Nat.zero_le _) rfl
  clear hX
  refine wpList_plain rfl fun Kt hKt => ?_
  go_simp
  refine hKt _ _ ?_
  clear hKt Kt
  refine wpList_plain rfl fun Kt hKt => ?_
  obtain ⟨v2, W2, hr2, hown2, hg2⟩ := run_append_B hown1 22 A c ((unhide HA).keep hb1) (unhide HNn) (by have := unhide HL; simp; omega) hb1.size
  rw [← (unhide HL).1] at hr2
  have hb2 := grown_below hb1 hg2 (fun k hk => (hown1.lt k hk).1)
  refine wp_append (.tmp 4) (.tmp 5) 22 rfl _ _ v2 W2 rfl rfl hr2 ?_
  refine hKt _ _ ?_
  clear hKt Kt hr2 hown1 hg2 hb1
  try simp only [List.getElem_toArray, List.getElem_cons_zero, List.getElem_cons_succ, Act.put, List.setIfInBounds_toArray, List.set_cons_zero, List.set_cons_succ]
  refine wpList_plain rfl fun Kt hKt => ?_
  go_simp
  refine hKt _ _ ?_
  clear hKt Kt
  generalize hX : W2.alloc _ = W3
  have hb3 := thenB hb2 (hX ▸ (Below.refl _ _).alloc (Nat.le_refl _) _ : Below W2.heap.size W2 W3)
  have hown3 := hown2.later (hX ▸ (Below.refl _ _).alloc (Nat.le_refl _) _ : Below W2.heap.size W2 W3)
  have hsix := one_bt W2 W3 6 ⟨by decide, by decide⟩ (hX ▸ rfl)
  clear hX hown2 hb2
  refine wpList_plain rfl fun Kt hKt => ?_
  obtain ⟨v4, W4, hr4, hown4, hg4⟩ := run_append_B hown3 22 (some ⟨W2.heap.size, 0, none⟩) 1 hsix (fun h => by cases h) (by have := unhide HL; simp; omega) hb3.size
  have hb4 := grown_below hb3 hg4 (fun k hk => (hown3.lt k hk).1)
  refine wp_append (.tmp 6) (.tmp 7) 22 rfl _ _ v4 W4 rfl rfl hr4 ?_
  refine hKt _ _ ?_
  clear hKt Kt hr4 hown3 hg4 hb3 hsix
  try simp only [List.getElem_toArray, List.getElem_cons_zero, List.getElem_cons_succ, Act.put, List.setIfInBounds_toArray, List.set_cons_zero, List.set_cons_succ]
  have HO4 := hide hown4
  have HB4 := hide hb4
  clear hown4 hb4
  go_wp2_with fail
  go_loopg [3] z (fun g y3 wx => ∃ t : Nat, t + g = z ∧ OwnB wx w.heap.size y3 (l ++ 6 :: List.replicate t 0) ∧ Below w.heap.size w wx)
  case atStart => exact ⟨0, by omega, unhide HO4, unhide HB4⟩
  case round =>
    clear HO4 HB4
    obtain ⟨t, htg, ho, hb⟩ := hrel
    obtain ⟨g, cap, rfl, hbg, hcell, hset⟩ := ho.opened (by intro h; have := congrArg List.length h; rw [pad_len] at this; simp at this)
    rw [pad_len] at ho hcell hset
    rw [pad_len]
    generalize hnn : l.length + 1 + t = nn at ho hcell hset ⊢
    obtain ⟨rr, hrr⟩ : ∃ rr, rr = nn % 136 := ⟨_, rfl⟩
    have tr : ((nn : Nat) : Int).tmod 136 = (rr : Int) := (Int.tmod_eq_emod_of_nonneg (by omega)).trans (by omega)
    by_cases ht : t < z
    · obtain ⟨g2, rfl⟩ : ∃ g, gk = g + 1 := ⟨gk - 1, by omega⟩
      have r0 : ¬ (rr : Int) = 0 := by
        have := (unhide HZ).2.2 t ht
        rw [hnn] at this
        omega
      have HT : Hid (t + (g2 + 1) = z ∧ t < z ∧ l.length + 1 + t = nn) := ⟨htg, ht, hnn⟩
      have HO := hide ho
      have HB := hide hb
      clear htg ht hnn hrr ho hb hcell hset
      go_upto_region 3 with fail
      refine wp_region_lit ?_
      refine wpList_plain rfl fun Kt hKt => ?_
      go_simp
      refine hKt _ _ ?_
      clear hKt Kt
      refine wpList_plain rfl fun Kt hKt => ?_
      go_simp
      refine hKt _ _ ?_
      clear hKt Kt
      generalize hX : wr.alloc _ = W5
      have hb5 := thenB (unhide HB) (hX ▸ (Below.refl _ _).alloc (Nat.le_refl _) _ : Below wr.heap.size wr W5)
      have hown5 := (unhide HO).later (hX ▸ (Below.refl _ _).alloc (Nat.le_refl _) _ : Below wr.heap.size wr W5)
      have hzero := one_bt wr W5 0 ⟨by decide, by decide⟩ (hX ▸ rfl)
      clear hX HO HB
      refine wpList_plain rfl fun Kt hKt => ?_
      obtain ⟨v6, W6, hr6, hown6, hg6⟩ := run_append_B hown5 22 (some ⟨wr.heap.size, 0, none⟩) 1 hzero (fun h => by cases h) (by have := unhide HL; have := unhide HZ; have := unhide HT; rw [pad_len, List.length_singleton]; omega) hb5.size
      have hb6 := grown_below hb5 hg6 (fun k hk => (hown5.lt k hk).1)
      refine wp_append (.tmp 13) (.tmp 14) 22 rfl _ _ v6 W6 rfl rfl hr6 ?_
      refine hKt _ _ ?_
      clear hKt Kt hr6 hown5 hg6 hb5 hzero
      try simp only [List.getElem_toArray, List.getElem_cons_zero, List.getElem_cons_succ, Act.put, List.setIfInBounds_toArray, List.set_cons_zero, List.set_cons_succ]
      have HO6 := hide hown6
      have HB6 := hide hb6
      clear hown6 hb6
      go_wp2_with fail
      go_roundg g2
      case measure => omega
      case rel => exact ⟨t + 1, by have := unhide HT; omega, by rw [← pad_next]; exact unhide HO6, unhide HB6⟩
    · obtain rfl : t = z := by omega
      obtain ⟨la, hla⟩ : ∃ la, la = l.length + t := ⟨_, rfl⟩
      have r0 : (rr : Int) = 0 := by have := (unhide HZ).2.1; rw [hnn] at this; omega
      have wl : IntKind.i64.wrap ((nn : Int) - 1) = (la : Int) := (IntWalk.i64_in _ (by have := unhide HL; have := unhide HZ; omega)).trans (by omega)
      have la0 : (0 : Int) ≤ (la : Int) := Int.natCast_nonneg _
      have la1 : (la : Int) < (nn : Int) := by omega
      have la2 : la < nn := by omega
      obtain ⟨hcl, hfl⟩ := hcell la la2
      obtain ⟨c0, hc0⟩ : ∃ c0, c0 = (l ++ 6 :: List.replicate t 0).getD la 0 := ⟨_, rfl⟩
      rw [← hc0] at hcl
      have HS := hide (hset la (bits .xor .u8 c0 128) la2)
      have HP : Hid ((l ++ 6 :: List.replicate t 0).set la (bits .xor .u8 c0 128) = padR l) := by
        rw [hc0, hla]
        exact (padR_eq l t (unhide HZ).2.1 (unhide HZ).1).symm
      rw [unhide HP] at HS
      have HBG : Hid (w.heap.size ≤ g) := hbg
      have HB := hide hb
      clear htg ht hnn hrr ho hb hcell hset hla hc0 HP hbg la2
      go_wp2_with fail
      go_ret
      exact ⟨_, rfl, unhide HS, (unhide HB).grown (grown_one' _ _ _ _) (unhide HB).size (fun i e => by injection e with e; have := unhide HBG; omega)⟩
theorem padR_pos (l : List Int) : (padR l).length ≤ l.length + 136 ∧ l.length < (padR l).length := by
  rw [padR_length]
  omega
end Go.Proofs.YtbclhieobhfdpaaDoor
