/- Contracts over the program of signing: Bits. -/
import Derived.Test.YtceppmajbkmbdaaDoorSigM1
import Derived.Test.YtceppmajbkmbdaaDoorDigTwo
import Derived.Deep.DeepCutAuto
namespace Go.Proofs.YtceppmajbkmbdaaDoor
set_option linter.unusedSimpArgs false
set_option linter.unusedVariables false
open Go.RowKit

/-- the parts lie in a block -/
def JoinAt (w : World) (l : List Int) (m : Nat) (x : Ending) (w' : World) : Prop := ∃ A c, x = .returned (.slice A m c) ∧ m ≤ c ∧ Bt w' A l ∧ Below w.heap.size w w'
theorem concat_at (w : World) (pb : Nat) (ps : List Part) (t : TypeId) (vs : List Value) (hv : ps.map Part.val = vs) (l : List Int) (m n : Nat) (hl : joined ps = l) (hm : m = l.length) (hn : n = vs.length) (h : VsAt w pb t vs) (ho : ∀ p ∈ ps, p.ok w ∧ (p.A = none → p.c = 0)) (hps : ps.length ≤ 1000) (ht : l.length ≤ 1000000000) :
    Calls Tryd.prog 67 #[.slice (some ⟨pb, 0, none⟩) n n] w (JoinAt w l m) := by
  subst hv hl hm hn
  rw [List.length_map]
  refine (concat_any w pb 0 ps.length ps (fun k p hk => by rw [Nat.zero_add]; exact h.cell (by rw [List.getElem?_map, hk]; rfl)) ho hps (Nat.le_refl _) ht).mono ?_
  rintro e w' ⟨v, rfl, ho1, hb⟩
  obtain ⟨A, c, rfl, h1, h2, h3, h4⟩ := own_formB ho1 (joined_byt fun p hp => (ho p hp).1)
  exact ⟨A, c, rfl, h1, h2, hb⟩

theorem infoBool : (Tryd.prog.info? 4).map (fun i => (i.zero, i.size, i.bytes)) = some (some (.bool false), 1, 1) := by kernel_rfl
def OwnL (w : World) (base : Nat) (v : Value) (l : List Bool) : Prop := w.ownsRow base 4 1 v l.length (l.map Value.bool)
set_option maxRecDepth 100000 in
theorem append_L (w : World) (base : Nat) (v : Value) (l : List Bool) (x : Bool) (h : OwnL w base v l) (h6 : l.length ≤ 1000000) (hbase : base ≤ w.heap.size) (ty : TypeId) :
    ∃ v' w', (Builtin.append_ #[45, 45] ty #[v, .slice (some ⟨w.heap.size, 0, none⟩) 1 1]).run Tryd.prog (w.alloc (.cells #[.bool x] 4)) = .ok v' w' ∧ OwnL w' base v' (l ++ [x]) ∧ (w.alloc (.cells #[.bool x] 4)).grownBy w' v.ownBlock := by
  obtain ⟨i0, hi, hz0, hz1, hz2⟩ := info_parts infoBool
  have hc : (w.alloc (.cells #[.bool x] 4)).cell? ⟨w.heap.size, 0, none⟩ = some (.bool x) := by
    have e : (w.alloc (.cells #[.bool x] 4)).heap[w.heap.size]? = some (.cells #[.bool x] 4) := heap_alloc_new w _
    exact (cell_of_row _ w.heap.size 0 _ _ (0, 0) e).trans rfl
  obtain ⟨v', w', hr, h2, h3, _, _⟩ := run_append_own_at (P := Tryd.prog) (w.alloc (.cells #[.bool x] 4)) base 45 ty 4 i0 (.bool false) 1 1 Tryd.underlying45 hi hz0 hz1 hz2 rfl (by decide) v l.length (l.map Value.bool) (World.ownsRow.alloc h _) ⟨w.heap.size, 0, none⟩ 1 1 [.bool x] rfl (fun j u hu => by
      match j, hu with
      | 0, hu => injection hu with hu; subst hu; exact hc) (fun u hu => by rw [List.mem_singleton.1 hu]; rfl) (by unfold maxLen; omega) (by omega) (Nat.le_trans hbase (by simp))
  exact ⟨v', w', hr, by unfold OwnL; rw [List.length_append, List.map_append]; exact h2, h3⟩
theorem OwnL.later {w W : World} {base : Nat} {v : Value} {l : List Bool} (h : OwnL w base v l) (hb : Below w.heap.size w W) : OwnL W base v l := by
  refine ⟨h.1, ?_⟩
  rcases h.2 with h | ⟨g, cap, cur, rfl, hbg, hg, r⟩
  · exact .inl h
  · exact .inr ⟨g, cap, cur, rfl, hbg, (hb.block g (Array.getElem?_eq_some_iff.1 hg).1).trans hg, r⟩
/-- bools behind an address -/
def Bl (w : World) (A : Option Addr) (l : List Bool) : Prop := l ≠ [] → ∃ b o, A = some ⟨b, o, none⟩ ∧ ∀ j x, l[j]? = some x → w.cell? ⟨b, o + j, none⟩ = some (.bool x)
theorem Bl.keep {w w' : World} {A : Option Addr} {l : List Bool} (h : Bl w A l) (hb : Below w.heap.size w w') : Bl w' A l := fun hl => by
  obtain ⟨b, o, e, hc⟩ := h hl
  refine ⟨b, o, e, fun j x hx => ?_⟩
  have h1 := hc j x hx
  rw [cell_block (hb.block b (lt_of_cell h1))]
  exact h1
theorem own_formL {w : World} {base : Nat} {v : Value} {l : List Bool} (h : OwnL w base v l) : ∃ A c, v = .slice A l.length c ∧ l.length ≤ c ∧ Bl w A l := by
  have hh := h
  rcases h.2 with ⟨rfl, h0⟩ | ⟨g, cap, cur, rfl, hbg, hg, h1, h2, h3, h4⟩
  · obtain rfl := List.length_eq_zero_iff.1 h0
    exact ⟨none, 0, rfl, Nat.le_refl _, fun h => absurd rfl h⟩
  · refine ⟨_, cap, rfl, h1, fun _ => ⟨g, 0, rfl, fun j x hx => ?_⟩⟩
    have hj := (List.getElem?_eq_some_iff.1 hx).1
    rw [Nat.zero_add, hh.cellAt j (by omega), List.getElem?_map, hx]
    rfl
/-- bits are returned -/
def BitsIs (w : World) (bits : List Bool) (x : Ending) (w' : World) : Prop := ∃ A c, x = .returned (.slice A bits.length c) ∧ bits.length ≤ c ∧ Bl w' A bits ∧ Below w.heap.size w w'

set_option maxRecDepth 100000 in
set_option maxHeartbeats 4000000 in
theorem Bits_bad (w : World) (d : List Int) (hd : Dg d) (i : Int) (hi : i < 0 ∨ 4096 ≤ i) (v : Value) :
    Calls Tryd.prog 31 #[dv d, .int .i64 i, v] w fun x w' => x = .returned (.slice none 0 0) ∧ Below w.heap.size w w' := by
  obtain ⟨cd, hcd⟩ : ∃ cs, cs = (d.map (Value.int .u8)).toArray := ⟨_, rfl⟩
  have hsd : cd.size = 32 := by rw [hcd]; simpa using hd.len
  rw [show dv d = .agg cd by rw [hcd]]
  clear hcd hd
  by_cases h0 : i < 0
  · clear hi
    go_enter Tryd.func31, Tryd.ntmps31
    go_wp2_with fail
    go_ret
    exact ⟨rfl, (Below.refl _ _).alloc (Nat.le_refl _) _⟩
  · have h1 : 4096 ≤ i := by omega
    clear hi
    go_enter Tryd.func31, Tryd.ntmps31
    go_wp2_with fail
    go_ret
    exact ⟨rfl, (Below.refl _ _).alloc (Nat.le_refl _) _⟩

set_option maxRecDepth 100000 in
set_option maxHeartbeats 8000000 in
theorem Bits_ok (w : World) (d : List Int) (hd : Dg d) (i : Nat) (hi : i < 4096) (A : Option Addr) (n c : Nat) (msg : List Int) (hn : n = msg.length) (hc : n ≤ c) (hA : Bt w A msg) (hA0 : A = none → c = 0) (h6 : n ≤ 100000000) (hT : DTab w) :
    Calls Tryd.prog 31 #[dv d, .int .i64 (i : Int), .slice A n c] w (BitsIs w (bitsS d i msg)) := by
  have HT := hide hT; have HA := hide hA; have HD := hide hd
  have HN : Hid (n = msg.length ∧ n ≤ c ∧ (A = none → c = 0) ∧ n ≤ 100000000 ∧ i < 4096) := ⟨hn, hc, hA0, h6, hi⟩
  obtain ⟨cd, hcd⟩ : ∃ cs, cs = (d.map (Value.int .u8)).toArray := ⟨_, rfl⟩
  have hsd : cd.size = 32 := by rw [hcd]; simpa using hd.len
  rw [show dv d = .agg cd by rw [hcd]]
  have i0 : ¬ (i : Int) < 0 := by omega
  have i1 : ¬ 4096 ≤ (i : Int) := by omega
  have HCD := hide hcd
  clear hT hA hd hn hc hA0 h6 hi hcd
  go_enter Tryd.func31, Tryd.ntmps31
  go_upto_region 1 with fail
  generalize hX1 : w.alloc _ = W1
  have hB1 : Below w.heap.size w W1 := hX1 ▸ (Below.refl _ _).alloc (Nat.le_refl _) _
  have ho1 : ByAt W1 w.heap.size 24 d := boxed w W1 d _ (by rw [← hX1, unhide HCD]; rfl)
  have HB1 := hide hB1; have HO1 := hide ho1
  clear hX1 hB1 ho1
  go_wp2_with fail
  obtain ⟨D, hD⟩ : ∃ D, D = msgS d i msg := ⟨_, rfl⟩
  have HD5 := hide hD
  have hgD : Dg D := hD ▸ dg_hash _
  have HGD := hide hgD
  obtain ⟨ce, hce⟩ : ∃ cs, cs = (D.map (Value.int .u8)).toArray := ⟨_, rfl⟩
  have hse : ce.size = 32 := by rw [hce]; simpa using hgD.len
  have HCE := hide hce
  obtain ⟨m5, hm5⟩ : ∃ m, m = (d ++ (twoB i ++ msg)).length := ⟨_, rfl⟩
  have HM5 := hide hm5
  clear hD hgD hce hm5
  go_cut [7] (fun y7 wx => ∃ N, y7 = .pointer (some ⟨N, 0, none⟩) ∧ ByAt wx N 24 D ∧ Below w.heap.size w wx)
  case first =>
    obtain ⟨W, hW⟩ : ∃ W, W = W1.drewN 1 := ⟨_, rfl⟩
    have HW : Hid (W = W1.drewN 1) := hW
    have hP0 := (unhide HO1).keep (below_named HW)
    have hS0 := thenB (unhide HB1) (below_named HW)
    clear hW HO1 HB1
    refine held (S := Below w.heap.size w) W HW (by kernel_rfl) ?_
    refine wpAnyH_take (i := 0) (v := ?_) rfl (by kernel_rfl) (by kernel_rfl) (by kernel_rfl) (fun _ _ _ h => h) (Or.inl ⟨by kernel_rfl, ?_⟩) (by assumption) ?_
    rotate_left
    · intro Wt hSt
      go_simp
      try with_reducible rfl
    try simp only [List.getElem_toArray, List.getElem_cons_zero, List.getElem_cons_succ, Act.put, List.setIfInBounds_toArray, List.set_cons_zero, List.set_cons_succ]
    refine wpAnyH_take (i := 1) (v := ?_) rfl (by kernel_rfl) (by kernel_rfl) (by kernel_rfl) (fun _ _ _ h => h) (Or.inl ⟨by kernel_rfl, ?_⟩) (by assumption) ?_
    rotate_left
    · intro Wt hSt
      go_simp
      try with_reducible rfl
    try simp only [List.getElem_toArray, List.getElem_cons_zero, List.getElem_cons_succ, Act.put, List.setIfInBounds_toArray, List.set_cons_zero, List.set_cons_succ]
    refine wpAnyH_take (i := 3) (v := ?_) rfl (by kernel_rfl) (by kernel_rfl) (by kernel_rfl) (fun _ _ _ h => h) (Or.inl ⟨by kernel_rfl, ?_⟩) (by assumption) ?_
    rotate_left
    · intro Wt hSt
      go_simp
      try with_reducible rfl
    try simp only [List.getElem_toArray, List.getElem_cons_zero, List.getElem_cons_succ, Act.put, List.setIfInBounds_toArray, List.set_cons_zero, List.set_cons_succ]
    refine wpAnyH_all (show Region.ready .any _ _ = [2, 7] by kernel_rfl) (by simp) fun x hx => ?_
    rcases (by simpa using hx : x = 2 ∨ x = 7) with rfl | rfl
    · clear hx
      refine wpOp_one 2 _ rfl (by kernel_rfl) fun K hK => ?_
      go_simp
      refine (two_any i (by have := unhide HN; omega) W).mono ?_; rintro x V1 ⟨⟨A2, c2, rfl, hc2, hB21, hA2⟩, hB1⟩
      have hP1 := hP0.keep hB1
      have hS1 := thenB hS0 hB1
      dsimp only
      refine hK _ _ ⟨hS1, ?_⟩
      clear hK K
      try simp only [List.getElem_toArray, List.getElem_cons_zero, List.getElem_cons_succ, Act.put, List.setIfInBounds_toArray, List.set_cons_zero, List.set_cons_succ]
      refine wpAnyH_all (show Region.ready .any _ _ = [4, 7] by kernel_rfl) (by simp) fun x hx => ?_
      rcases (by simpa using hx : x = 4 ∨ x = 7) with rfl | rfl
      · clear hx
        refine wpOp_one 4 _ rfl (by kernel_rfl) fun K hK => ?_
        go_simp
        generalize hX2 : V1.alloc _ = V2
        have hB2 : Below V1.heap.size V1 V2 := hX2 ▸ (Below.refl _ _).alloc (Nat.le_refl _) _
        have hR2 : VsAt V2 V1.heap.size 22 [.slice (some ⟨w.heap.size, 0, none⟩) 32 32, .slice A2 2 c2, .slice A n c] := boxedV V1 V2 _ _ (by rw [← hX2]; rfl)
        have hP2 := hP1.keep hB2
        have hB22 := hB21.keep hB2
        have hS2 := thenB hS1 hB2
        clear hX2
        refine hK _ _ ⟨hS2, ?_⟩
        clear hK K
        try simp only [List.getElem_toArray, List.getElem_cons_zero, List.getElem_cons_succ, Act.put, List.setIfInBounds_toArray, List.set_cons_zero, List.set_cons_succ]
        refine wpAnyH_all (show Region.ready .any _ _ = [5, 7] by kernel_rfl) (by simp) fun x hx => ?_
        rcases (by simpa using hx : x = 5 ∨ x = 7) with rfl | rfl
        · clear hx
          refine wpOp_one 5 _ rfl (by kernel_rfl) fun K hK => ?_
          go_simp
          have hj := concat_at V2 (V1.heap.size) [⟨some ⟨w.heap.size, 0, none⟩, d, 32⟩, ⟨A2, twoB i, c2⟩, ⟨A, msg, c⟩] _ _ (by simp only [List.map_cons, List.map_nil, Part.val, (unhide HD).len, twoB_length, ← (unhide HN).1]) (d ++ (twoB i ++ msg)) m5 3 (by simp [joined]) (unhide HM5) rfl hR2 (fun p hp => by
            have hN := unhide HN
            simp only [List.mem_cons, List.not_mem_nil, or_false] at hp
            rcases hp with rfl | rfl | rfl
            · exact ⟨⟨hP2.bt (unhide HD), Nat.le_of_eq (unhide HD).len⟩, fun h => by cases h⟩
            · exact ⟨⟨hB22, hc2⟩, fun h => absurd h hA2⟩
            · exact ⟨⟨(unhide HA).keep hS2, by show msg.length ≤ c; omega⟩, hN.2.2.1⟩) (by simp) (by simp only [List.length_append, (unhide HD).len, twoB_length, ← (unhide HN).1]; have := unhide HN; omega)
          refine hj.mono ?_; rintro x V3 ⟨A5, c5, rfl, hc5, hB53, hB3⟩
          have hP3 := hP2.keep hB3
          have hB23 := hB22.keep hB3
          have hR3 := hR2.keep hB3
          have hS3 := thenB hS2 hB3
          dsimp only
          refine hK _ _ ⟨hS3, ?_⟩
          clear hK K
          try simp only [List.getElem_toArray, List.getElem_cons_zero, List.getElem_cons_succ, Act.put, List.setIfInBounds_toArray, List.set_cons_zero, List.set_cons_succ]
          refine wpAnyH_all (show Region.ready .any _ _ = [6, 7] by kernel_rfl) (by simp) fun x hx => ?_
          rcases (by simpa using hx : x = 6 ∨ x = 7) with rfl | rfl
          · clear hx
            refine wpOp_one 6 _ rfl (by kernel_rfl) fun K hK => ?_
            go_simp
            have ht := tagged_any V3 ⟨#[109, 101, 115, 115, 97, 103, 101]⟩ A5 c5 (d ++ (twoB i ++ msg)) hB53 (by rw [← unhide HM5]; exact hc5) ((unhide HT).keep hS3)
            rw [show sb ⟨#[109, 101, 115, 115, 97, 103, 101]⟩ = MSGB by decide, show tagF MSGB (d ++ (twoB i ++ msg)) = D from (unhide HD5).symm, show dv D = .agg ce by rw [unhide HCE], ← unhide HM5] at ht
            refine ht.mono ?_; rintro x V4 ⟨rfl, hB4⟩
            have hP4 := hP3.keep hB4
            have hB24 := hB23.keep hB4
            have hR4 := hR3.keep hB4
            have hB54 := hB53.keep hB4
            have hS4 := thenB hS3 hB4
            dsimp only
            refine hK _ _ ⟨hS4, ?_⟩
            clear hK K
            try simp only [List.getElem_toArray, List.getElem_cons_zero, List.getElem_cons_succ, Act.put, List.setIfInBounds_toArray, List.set_cons_zero, List.set_cons_succ]
            refine wpAnyH_one 7 _ rfl (by kernel_rfl) (by kernel_rfl) ?_
            intro K hK
            go_simp
            generalize hX5 : V4.alloc _ = V5
            have hB5 : Below V4.heap.size V4 V5 := hX5 ▸ (Below.refl _ _).alloc (Nat.le_refl _) _
            have hZ5 : ByAt V5 V4.heap.size 24 zeros := newBy V4 V5 (by rw [← hX5]; rfl)
            have hP5 := hP4.keep hB5
            have hB25 := hB24.keep hB5
            have hR5 := hR4.keep hB5
            have hB55 := hB54.keep hB5
            have hS5 := thenB hS4 hB5
            clear hX5
            refine hK _ _ hS5 ?_
            clear hK K
            try simp only [List.getElem_toArray, List.getElem_cons_zero, List.getElem_cons_succ, Act.put, List.setIfInBounds_toArray, List.set_cons_zero, List.set_cons_succ]
            refine wpAnyH_chainOf [8] _ _ _ (by kernel_rfl) (by kernel_rfl) ?_
            simp only [List.filterMap_cons, List.filterMap_nil, List.getElem?_toArray, List.getElem?_cons_zero, List.getElem?_cons_succ]
            refine wpChain_bstore rfl 24 (.tmp 7) (.tmp 21) rfl (V4.heap.size) rfl D (show Value.agg ce = _ by rw [unhide HCE]) 32 info32 (unhide HGD).len _ zeros hZ5 rfl ?_
            intro X6 HX6 HG6
            have hS6 : Below w.heap.size w X6 := hS5.grown (unhide HG6) hS5.size (fun i e => by injection e with e; have := hS4.size; omega)
            refine ⟨hS6, wpChain_nil ?_⟩
            go_wp2_with fail
            go_meet
            exact ⟨_, rfl, unhide HX6, hS6⟩
          · clear hx
            refine wpOp_one 7 _ rfl (by kernel_rfl) fun K hK => ?_
            go_simp
            generalize hX7 : V3.alloc _ = V7
            have hB7 : Below V3.heap.size V3 V7 := hX7 ▸ (Below.refl _ _).alloc (Nat.le_refl _) _
            have hZ7 : ByAt V7 V3.heap.size 24 zeros := newBy V3 V7 (by rw [← hX7]; rfl)
            have hP7 := hP3.keep hB7
            have hB27 := hB23.keep hB7
            have hR7 := hR3.keep hB7
            have hB57 := hB53.keep hB7
            have hS7 := thenB hS3 hB7
            clear hX7
            refine hK _ _ ⟨hS7, ?_⟩
            clear hK K
            try simp only [List.getElem_toArray, List.getElem_cons_zero, List.getElem_cons_succ, Act.put, List.setIfInBounds_toArray, List.set_cons_zero, List.set_cons_succ]
            refine wpAnyH_one 6 _ rfl (by kernel_rfl) (by kernel_rfl) ?_
            intro K hK
            go_simp
            have ht := tagged_any V7 ⟨#[109, 101, 115, 115, 97, 103, 101]⟩ A5 c5 (d ++ (twoB i ++ msg)) hB57 (by rw [← unhide HM5]; exact hc5) ((unhide HT).keep hS7)
            rw [show sb ⟨#[109, 101, 115, 115, 97, 103, 101]⟩ = MSGB by decide, show tagF MSGB (d ++ (twoB i ++ msg)) = D from (unhide HD5).symm, show dv D = .agg ce by rw [unhide HCE], ← unhide HM5] at ht
            refine ht.mono ?_; rintro x V8 ⟨rfl, hB8⟩
            have hP8 := hP7.keep hB8
            have hB28 := hB27.keep hB8
            have hR8 := hR7.keep hB8
            have hB58 := hB57.keep hB8
            have hZ8 := hZ7.keep hB8
            have hS8 := thenB hS7 hB8
            dsimp only
            refine hK _ _ hS8 ?_
            clear hK K
            try simp only [List.getElem_toArray, List.getElem_cons_zero, List.getElem_cons_succ, Act.put, List.setIfInBounds_toArray, List.set_cons_zero, List.set_cons_succ]
            refine wpAnyH_chainOf [8] _ _ _ (by kernel_rfl) (by kernel_rfl) ?_
            simp only [List.filterMap_cons, List.filterMap_nil, List.getElem?_toArray, List.getElem?_cons_zero, List.getElem?_cons_succ]
            refine wpChain_bstore rfl 24 (.tmp 7) (.tmp 21) rfl (V3.heap.size) rfl D (show Value.agg ce = _ by rw [unhide HCE]) 32 info32 (unhide HGD).len _ zeros hZ8 rfl ?_
            intro X9 HX9 HG9
            have hS9 : Below w.heap.size w X9 := hS8.grown (unhide HG9) hS8.size (fun i e => by injection e with e; have := hS3.size; omega)
            refine ⟨hS9, wpChain_nil ?_⟩
            go_wp2_with fail
            go_meet
            exact ⟨_, rfl, unhide HX9, hS9⟩
        · clear hx
          refine wpOp_one 7 _ rfl (by kernel_rfl) fun K hK => ?_
          go_simp
          generalize hX10 : V2.alloc _ = V10
          have hB10 : Below V2.heap.size V2 V10 := hX10 ▸ (Below.refl _ _).alloc (Nat.le_refl _) _
          have hZ10 : ByAt V10 V2.heap.size 24 zeros := newBy V2 V10 (by rw [← hX10]; rfl)
          have hP10 := hP2.keep hB10
          have hB210 := hB22.keep hB10
          have hR10 := hR2.keep hB10
          have hS10 := thenB hS2 hB10
          clear hX10
          refine hK _ _ ⟨hS10, ?_⟩
          clear hK K
          try simp only [List.getElem_toArray, List.getElem_cons_zero, List.getElem_cons_succ, Act.put, List.setIfInBounds_toArray, List.set_cons_zero, List.set_cons_succ]
          refine wpAnyH_one 5 _ rfl (by kernel_rfl) (by kernel_rfl) ?_
          intro K hK
          go_simp
          have hj := concat_at V10 (V1.heap.size) [⟨some ⟨w.heap.size, 0, none⟩, d, 32⟩, ⟨A2, twoB i, c2⟩, ⟨A, msg, c⟩] _ _ (by simp only [List.map_cons, List.map_nil, Part.val, (unhide HD).len, twoB_length, ← (unhide HN).1]) (d ++ (twoB i ++ msg)) m5 3 (by simp [joined]) (unhide HM5) rfl hR10 (fun p hp => by
            have hN := unhide HN
            simp only [List.mem_cons, List.not_mem_nil, or_false] at hp
            rcases hp with rfl | rfl | rfl
            · exact ⟨⟨hP10.bt (unhide HD), Nat.le_of_eq (unhide HD).len⟩, fun h => by cases h⟩
            · exact ⟨⟨hB210, hc2⟩, fun h => absurd h hA2⟩
            · exact ⟨⟨(unhide HA).keep hS10, by show msg.length ≤ c; omega⟩, hN.2.2.1⟩) (by simp) (by simp only [List.length_append, (unhide HD).len, twoB_length, ← (unhide HN).1]; have := unhide HN; omega)
          refine hj.mono ?_; rintro x V11 ⟨A5, c5, rfl, hc5, hB511, hB11⟩
          have hP11 := hP10.keep hB11
          have hB211 := hB210.keep hB11
          have hR11 := hR10.keep hB11
          have hZ11 := hZ10.keep hB11
          have hS11 := thenB hS10 hB11
          dsimp only
          refine hK _ _ hS11 ?_
          clear hK K
          try simp only [List.getElem_toArray, List.getElem_cons_zero, List.getElem_cons_succ, Act.put, List.setIfInBounds_toArray, List.set_cons_zero, List.set_cons_succ]
          refine wpAnyH_one 6 _ rfl (by kernel_rfl) (by kernel_rfl) ?_
          intro K hK
          go_simp
          have ht := tagged_any V11 ⟨#[109, 101, 115, 115, 97, 103, 101]⟩ A5 c5 (d ++ (twoB i ++ msg)) hB511 (by rw [← unhide HM5]; exact hc5) ((unhide HT).keep hS11)
          rw [show sb ⟨#[109, 101, 115, 115, 97, 103, 101]⟩ = MSGB by decide, show tagF MSGB (d ++ (twoB i ++ msg)) = D from (unhide HD5).symm, show dv D = .agg ce by rw [unhide HCE], ← unhide HM5] at ht
          refine ht.mono ?_; rintro x V12 ⟨rfl, hB12⟩
          have hP12 := hP11.keep hB12
          have hB212 := hB211.keep hB12
          have hR12 := hR11.keep hB12
          have hZ12 := hZ11.keep hB12
          have hB512 := hB511.keep hB12
          have hS12 := thenB hS11 hB12
          dsimp only
          refine hK _ _ hS12 ?_
          clear hK K
          try simp only [List.getElem_toArray, List.getElem_cons_zero, List.getElem_cons_succ, Act.put, List.setIfInBounds_toArray, List.set_cons_zero, List.set_cons_succ]
          refine wpAnyH_chainOf [8] _ _ _ (by kernel_rfl) (by kernel_rfl) ?_
          simp only [List.filterMap_cons, List.filterMap_nil, List.getElem?_toArray, List.getElem?_cons_zero, List.getElem?_cons_succ]
          refine wpChain_bstore rfl 24 (.tmp 7) (.tmp 21) rfl (V2.heap.size) rfl D (show Value.agg ce = _ by rw [unhide HCE]) 32 info32 (unhide HGD).len _ zeros hZ12 rfl ?_
          intro X13 HX13 HG13
          have hS13 : Below w.heap.size w X13 := hS12.grown (unhide HG13) hS12.size (fun i e => by injection e with e; have := hS2.size; omega)
          refine ⟨hS13, wpChain_nil ?_⟩
          go_wp2_with fail
          go_meet
          exact ⟨_, rfl, unhide HX13, hS13⟩
      · clear hx
        refine wpOp_one 7 _ rfl (by kernel_rfl) fun K hK => ?_
        go_simp
        generalize hX14 : V1.alloc _ = V14
        have hB14 : Below V1.heap.size V1 V14 := hX14 ▸ (Below.refl _ _).alloc (Nat.le_refl _) _
        have hZ14 : ByAt V14 V1.heap.size 24 zeros := newBy V1 V14 (by rw [← hX14]; rfl)
        have hP14 := hP1.keep hB14
        have hB214 := hB21.keep hB14
        have hS14 := thenB hS1 hB14
        clear hX14
        refine hK _ _ ⟨hS14, ?_⟩
        clear hK K
        try simp only [List.getElem_toArray, List.getElem_cons_zero, List.getElem_cons_succ, Act.put, List.setIfInBounds_toArray, List.set_cons_zero, List.set_cons_succ]
        refine wpAnyH_one 4 _ rfl (by kernel_rfl) (by kernel_rfl) ?_
        intro K hK
        go_simp
        generalize hX15 : V14.alloc _ = V15
        have hB15 : Below V14.heap.size V14 V15 := hX15 ▸ (Below.refl _ _).alloc (Nat.le_refl _) _
        have hR15 : VsAt V15 V14.heap.size 22 [.slice (some ⟨w.heap.size, 0, none⟩) 32 32, .slice A2 2 c2, .slice A n c] := boxedV V14 V15 _ _ (by rw [← hX15]; rfl)
        have hP15 := hP14.keep hB15
        have hB215 := hB214.keep hB15
        have hZ15 := hZ14.keep hB15
        have hS15 := thenB hS14 hB15
        clear hX15
        refine hK _ _ hS15 ?_
        clear hK K
        try simp only [List.getElem_toArray, List.getElem_cons_zero, List.getElem_cons_succ, Act.put, List.setIfInBounds_toArray, List.set_cons_zero, List.set_cons_succ]
        refine wpAnyH_one 5 _ rfl (by kernel_rfl) (by kernel_rfl) ?_
        intro K hK
        go_simp
        have hj := concat_at V15 (V14.heap.size) [⟨some ⟨w.heap.size, 0, none⟩, d, 32⟩, ⟨A2, twoB i, c2⟩, ⟨A, msg, c⟩] _ _ (by simp only [List.map_cons, List.map_nil, Part.val, (unhide HD).len, twoB_length, ← (unhide HN).1]) (d ++ (twoB i ++ msg)) m5 3 (by simp [joined]) (unhide HM5) rfl hR15 (fun p hp => by
          have hN := unhide HN
          simp only [List.mem_cons, List.not_mem_nil, or_false] at hp
          rcases hp with rfl | rfl | rfl
          · exact ⟨⟨hP15.bt (unhide HD), Nat.le_of_eq (unhide HD).len⟩, fun h => by cases h⟩
          · exact ⟨⟨hB215, hc2⟩, fun h => absurd h hA2⟩
          · exact ⟨⟨(unhide HA).keep hS15, by show msg.length ≤ c; omega⟩, hN.2.2.1⟩) (by simp) (by simp only [List.length_append, (unhide HD).len, twoB_length, ← (unhide HN).1]; have := unhide HN; omega)
        refine hj.mono ?_; rintro x V16 ⟨A5, c5, rfl, hc5, hB516, hB16⟩
        have hP16 := hP15.keep hB16
        have hB216 := hB215.keep hB16
        have hZ16 := hZ15.keep hB16
        have hR16 := hR15.keep hB16
        have hS16 := thenB hS15 hB16
        dsimp only
        refine hK _ _ hS16 ?_
        clear hK K
        try simp only [List.getElem_toArray, List.getElem_cons_zero, List.getElem_cons_succ, Act.put, List.setIfInBounds_toArray, List.set_cons_zero, List.set_cons_succ]
        refine wpAnyH_one 6 _ rfl (by kernel_rfl) (by kernel_rfl) ?_
        intro K hK
        go_simp
        have ht := tagged_any V16 ⟨#[109, 101, 115, 115, 97, 103, 101]⟩ A5 c5 (d ++ (twoB i ++ msg)) hB516 (by rw [← unhide HM5]; exact hc5) ((unhide HT).keep hS16)
        rw [show sb ⟨#[109, 101, 115, 115, 97, 103, 101]⟩ = MSGB by decide, show tagF MSGB (d ++ (twoB i ++ msg)) = D from (unhide HD5).symm, show dv D = .agg ce by rw [unhide HCE], ← unhide HM5] at ht
        refine ht.mono ?_; rintro x V17 ⟨rfl, hB17⟩
        have hP17 := hP16.keep hB17
        have hB217 := hB216.keep hB17
        have hZ17 := hZ16.keep hB17
        have hR17 := hR16.keep hB17
        have hB517 := hB516.keep hB17
        have hS17 := thenB hS16 hB17
        dsimp only
        refine hK _ _ hS17 ?_
        clear hK K
        try simp only [List.getElem_toArray, List.getElem_cons_zero, List.getElem_cons_succ, Act.put, List.setIfInBounds_toArray, List.set_cons_zero, List.set_cons_succ]
        refine wpAnyH_chainOf [8] _ _ _ (by kernel_rfl) (by kernel_rfl) ?_
        simp only [List.filterMap_cons, List.filterMap_nil, List.getElem?_toArray, List.getElem?_cons_zero, List.getElem?_cons_succ]
        refine wpChain_bstore rfl 24 (.tmp 7) (.tmp 21) rfl (V1.heap.size) rfl D (show Value.agg ce = _ by rw [unhide HCE]) 32 info32 (unhide HGD).len _ zeros hZ17 rfl ?_
        intro X18 HX18 HG18
        have hS18 : Below w.heap.size w X18 := hS17.grown (unhide HG18) hS17.size (fun i e => by injection e with e; have := hS1.size; omega)
        refine ⟨hS18, wpChain_nil ?_⟩
        go_wp2_with fail
        go_meet
        exact ⟨_, rfl, unhide HX18, hS18⟩
    · clear hx
      refine wpOp_one 7 _ rfl (by kernel_rfl) fun K hK => ?_
      go_simp
      generalize hX19 : W.alloc _ = V19
      have hB19 : Below W.heap.size W V19 := hX19 ▸ (Below.refl _ _).alloc (Nat.le_refl _) _
      have hZ19 : ByAt V19 W.heap.size 24 zeros := newBy W V19 (by rw [← hX19]; rfl)
      have hP19 := hP0.keep hB19
      have hS19 := thenB hS0 hB19
      clear hX19
      refine hK _ _ ⟨hS19, ?_⟩
      clear hK K
      try simp only [List.getElem_toArray, List.getElem_cons_zero, List.getElem_cons_succ, Act.put, List.setIfInBounds_toArray, List.set_cons_zero, List.set_cons_succ]
      refine wpAnyH_one 2 _ rfl (by kernel_rfl) (by kernel_rfl) ?_
      intro K hK
      go_simp
      refine (two_any i (by have := unhide HN; omega) V19).mono ?_; rintro x V20 ⟨⟨A2, c2, rfl, hc2, hB220, hA2⟩, hB20⟩
      have hP20 := hP19.keep hB20
      have hZ20 := hZ19.keep hB20
      have hS20 := thenB hS19 hB20
      dsimp only
      refine hK _ _ hS20 ?_
      clear hK K
      try simp only [List.getElem_toArray, List.getElem_cons_zero, List.getElem_cons_succ, Act.put, List.setIfInBounds_toArray, List.set_cons_zero, List.set_cons_succ]
      refine wpAnyH_one 4 _ rfl (by kernel_rfl) (by kernel_rfl) ?_
      intro K hK
      go_simp
      generalize hX21 : V20.alloc _ = V21
      have hB21 : Below V20.heap.size V20 V21 := hX21 ▸ (Below.refl _ _).alloc (Nat.le_refl _) _
      have hR21 : VsAt V21 V20.heap.size 22 [.slice (some ⟨w.heap.size, 0, none⟩) 32 32, .slice A2 2 c2, .slice A n c] := boxedV V20 V21 _ _ (by rw [← hX21]; rfl)
      have hP21 := hP20.keep hB21
      have hZ21 := hZ20.keep hB21
      have hB221 := hB220.keep hB21
      have hS21 := thenB hS20 hB21
      clear hX21
      refine hK _ _ hS21 ?_
      clear hK K
      try simp only [List.getElem_toArray, List.getElem_cons_zero, List.getElem_cons_succ, Act.put, List.setIfInBounds_toArray, List.set_cons_zero, List.set_cons_succ]
      refine wpAnyH_one 5 _ rfl (by kernel_rfl) (by kernel_rfl) ?_
      intro K hK
      go_simp
      have hj := concat_at V21 (V20.heap.size) [⟨some ⟨w.heap.size, 0, none⟩, d, 32⟩, ⟨A2, twoB i, c2⟩, ⟨A, msg, c⟩] _ _ (by simp only [List.map_cons, List.map_nil, Part.val, (unhide HD).len, twoB_length, ← (unhide HN).1]) (d ++ (twoB i ++ msg)) m5 3 (by simp [joined]) (unhide HM5) rfl hR21 (fun p hp => by
        have hN := unhide HN
        simp only [List.mem_cons, List.not_mem_nil, or_false] at hp
        rcases hp with rfl | rfl | rfl
        · exact ⟨⟨hP21.bt (unhide HD), Nat.le_of_eq (unhide HD).len⟩, fun h => by cases h⟩
        · exact ⟨⟨hB221, hc2⟩, fun h => absurd h hA2⟩
        · exact ⟨⟨(unhide HA).keep hS21, by show msg.length ≤ c; omega⟩, hN.2.2.1⟩) (by simp) (by simp only [List.length_append, (unhide HD).len, twoB_length, ← (unhide HN).1]; have := unhide HN; omega)
      refine hj.mono ?_; rintro x V22 ⟨A5, c5, rfl, hc5, hB522, hB22⟩
      have hP22 := hP21.keep hB22
      have hZ22 := hZ21.keep hB22
      have hB222 := hB221.keep hB22
      have hR22 := hR21.keep hB22
      have hS22 := thenB hS21 hB22
      dsimp only
      refine hK _ _ hS22 ?_
      clear hK K
      try simp only [List.getElem_toArray, List.getElem_cons_zero, List.getElem_cons_succ, Act.put, List.setIfInBounds_toArray, List.set_cons_zero, List.set_cons_succ]
      refine wpAnyH_one 6 _ rfl (by kernel_rfl) (by kernel_rfl) ?_
      intro K hK
      go_simp
      have ht := tagged_any V22 ⟨#[109, 101, 115, 115, 97, 103, 101]⟩ A5 c5 (d ++ (twoB i ++ msg)) hB522 (by rw [← unhide HM5]; exact hc5) ((unhide HT).keep hS22)
      rw [show sb ⟨#[109, 101, 115, 115, 97, 103, 101]⟩ = MSGB by decide, show tagF MSGB (d ++ (twoB i ++ msg)) = D from (unhide HD5).symm, show dv D = .agg ce by rw [unhide HCE], ← unhide HM5] at ht
      refine ht.mono ?_; rintro x V23 ⟨rfl, hB23⟩
      have hP23 := hP22.keep hB23
      have hZ23 := hZ22.keep hB23
      have hB223 := hB222.keep hB23
      have hR23 := hR22.keep hB23
      have hB523 := hB522.keep hB23
      have hS23 := thenB hS22 hB23
      dsimp only
      refine hK _ _ hS23 ?_
      clear hK K
      try simp only [List.getElem_toArray, List.getElem_cons_zero, List.getElem_cons_succ, Act.put, List.setIfInBounds_toArray, List.set_cons_zero, List.set_cons_succ]
      refine wpAnyH_chainOf [8] _ _ _ (by kernel_rfl) (by kernel_rfl) ?_
      simp only [List.filterMap_cons, List.filterMap_nil, List.getElem?_toArray, List.getElem?_cons_zero, List.getElem?_cons_succ]
      refine wpChain_bstore rfl 24 (.tmp 7) (.tmp 21) rfl (W.heap.size) rfl D (show Value.agg ce = _ by rw [unhide HCE]) 32 info32 (unhide HGD).len _ zeros hZ23 rfl ?_
      intro X24 HX24 HG24
      have hS24 : Below w.heap.size w X24 := hS23.grown (unhide HG24) hS23.size (fun i e => by injection e with e; have := hS0.size; omega)
      refine ⟨hS24, wpChain_nil ?_⟩
      go_wp2_with fail
      go_meet
      exact ⟨_, rfl, unhide HX24, hS24⟩
  case rest =>
    obtain ⟨N, rfl, hN, hb⟩ := hcut
    have HND := hide hN; have HBC := hide hb
    clear hN hb HO1 HB1
    go_wp2_with fail
    go_loopg [6, 22] 64 (fun g y6 y22 wx => ∃ (j : Nat), g + j = 64 ∧ y22 = .int .i64 (j : Int) ∧ OwnL wx wc.heap.size y6 ((bitsS d i msg).take j) ∧ Below wc.heap.size wc wx)
    case atStart => exact ⟨0, rfl, rfl, World.ownsRow_nil _ _ _ _, Below.refl _ _⟩
    case round =>
      obtain ⟨j, hj, rfl, hov, hbv⟩ := hrel
      cases gk with
      | zero =>
        obtain rfl : j = 64 := by omega
        rw [List.take_of_length_le (by rw [bitsS_length]; exact Nat.le_refl _)] at hov
        obtain ⟨A9, c9, hv9, hc9, hbl⟩ := own_formL hov
        have H9 : Hid ((bitsS d i msg).length ≤ c9) := hc9
        have HBL := hide hbl; have HBV := hide hbv; have HV9 := hide hv9
        clear hov hc9 hbl hbv hj hv9
        go_wp2_with fail
        go_ret
        exact ⟨A9, c9, by rw [unhide HV9]; rfl, unhide H9, unhide HBL, thenB (unhide HBC) (unhide HBV)⟩
      | succ g =>
        have hj64 : j < 64 := by omega
        have j1 : (j : Int) < 64 := by omega
        have j0 : (0 : Int) ≤ (j : Int) := Int.natCast_nonneg _
        obtain ⟨q, hq⟩ : ∃ q, q = j / 8 := ⟨_, rfl⟩
        obtain ⟨r, hr8⟩ : ∃ r, r = j % 8 := ⟨_, rfl⟩
        obtain ⟨s, hs7⟩ : ∃ s, s = 7 - r := ⟨_, rfl⟩
        have wq : IntKind.i64.wrap ((j : Int) / 8) = (q : Int) := (IntWalk.i64_in _ (by omega)).trans (by omega)
        have wr8 : IntKind.i64.wrap ((j : Int) % 8) = (r : Int) := (IntWalk.i64_in _ (by omega)).trans (by omega)
        have wr9 : (j : Int).tmod 8 = (r : Int) := (Int.tmod_eq_emod_of_nonneg (by omega)).trans (by omega)
        have ws : IntKind.i64.wrap (7 - (r : Int)) = (s : Int) := (IntWalk.i64_in _ (by omega)).trans (by omega)
        have q1 : (q : Int) < 32 := by omega
        have s0 : (0 : Int) ≤ (s : Int) := by omega
        have s8 : (s : Int) < 8 := by omega
        have d0 := ((unhide HND).keep hbv).cell (j := q) (by rw [(unhide HGD).len]; omega)
        have HQ : Hid (q = j / 8 ∧ r = j % 8 ∧ s = 7 - r) := ⟨hq, hr8, hs7⟩
        clear hq hr8 hs7
        go_upto_region 7 with fail
        refine wp_region_lit ?_
        refine wpList_plain rfl fun Kt hKt => ?_
        go_simp
        refine hKt _ _ ?_
        clear hKt Kt
        refine wpList_plain rfl fun Kt hKt => ?_
        go_simp
        refine hKt _ _ ?_
        clear hKt Kt
        refine wpList_plain rfl fun Kt hKt => ?_
        go_simp
        refine hKt _ _ ?_
        clear hKt Kt
        refine wpList_plain rfl fun Kt hKt => ?_
        go_simp
        refine hKt _ _ ?_
        clear hKt Kt
        refine wpList_plain rfl fun Kt hKt => ?_
        go_simp
        refine hKt _ _ ?_
        clear hKt Kt
        refine wpList_plain rfl fun Kt hKt => ?_
        go_simp
        refine hKt _ _ ?_
        clear hKt Kt
        refine wpList_plain rfl fun Kt hKt => ?_
        go_simp
        refine hKt _ _ ?_
        clear hKt Kt
        refine wpList_plain rfl fun Kt hKt => ?_
        go_simp
        refine hKt _ _ ?_
        clear hKt Kt
        refine wpList_plain rfl fun Kt hKt => ?_
        go_simp
        refine hKt _ _ ?_
        clear hKt Kt
        refine wpList_plain rfl fun Kt hKt => ?_
        go_simp
        refine hKt _ _ ?_
        clear hKt Kt
        refine wpList_plain rfl fun Kt hKt => ?_
        go_simp
        refine hKt _ _ ?_
        clear hKt Kt
        obtain ⟨x, hx⟩ : ∃ x, x = bitS D j := ⟨_, rfl⟩
        have hxx : (bits .and .u8 (D[q]?.getD 0 / 2 ^ s) 1 == 1) = x := by
          rw [hx]
          unfold bitS
          obtain ⟨h1, h2, h3⟩ := unhide HQ
          rw [h3, h2, h1, List.getD_eq_getElem?_getD]
        have htk : (bitsS d i msg).take (j + 1) = (bitsS d i msg).take j ++ [x] := by
          rw [List.take_add_one, show (bitsS d i msg)[j]? = some x by unfold bitsS; rw [List.getElem?_map, List.getElem?_range hj64, hx, unhide HD5]; rfl]
          rfl
        have hlt : ((bitsS d i msg).take j).length ≤ 1000000 := by rw [List.length_take, bitsS_length]; omega
        rw [hxx]
        obtain ⟨v2, W2, hr2, ho2, hg2⟩ := append_L wr wc.heap.size u6 _ x hov hlt hbv.size 45
        rw [← htk] at ho2
        have HR2 := hide hr2; have HO2 := hide ho2
        have HB2 := hide (grown_below (hbv.alloc hbv.size (.cells #[.bool x] 4)) hg2 (fun k hk => (hov.lt k hk).1))
        have HJ : Hid (g + 1 + j = 64) := hj
        clear hxx htk hlt hr2 ho2 hg2 hov hbv hx hj hj64 d0
        refine wpList_plain rfl fun Kt hKt => ?_
        go_simp
        refine hKt _ _ ?_
        clear hKt Kt
        refine wpList_app rfl (.tmp 25) (.tmp 36) 45 45 rfl _ _ v2 W2 rfl rfl (unhide HR2) ?_
        go_wp2_with fail
        go_roundg g
        case measure => omega
        case rel => exact ⟨j + 1, by have := unhide HJ; omega, by push_cast; rfl, unhide HO2, unhide HB2⟩
end Go.Proofs.YtceppmajbkmbdaaDoor
