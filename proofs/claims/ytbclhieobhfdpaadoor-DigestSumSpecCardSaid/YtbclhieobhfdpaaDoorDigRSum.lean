/- The reference's hash: a contract. -/
import Derived.Test.YtbclhieobhfdpaaDoorDigRPad
import Derived.Test.YtbclhieobhfdpaaDoorDigRRound
namespace Go.Proofs.YtbclhieobhfdpaaDoor
set_option linter.unusedSimpArgs false
set_option linter.unusedVariables false
open Go.RowKit

/-- bytes from a block's start on -/
structure PB (w : World) (g : Nat) (q : List Int) : Prop where
  lt : g < w.heap.size
  at_ : ∀ i, i < q.length → w.cell? ⟨g, i, none⟩ = some (.int .u8 (q.getD i 0))
theorem PB.keep {w w' : World} {g : Nat} {q : List Int} (h : PB w g q) (hb : Below w.heap.size w w') : PB w' g q :=
  ⟨Nat.lt_of_lt_of_le h.lt hb.size, fun i hi => (World.cell?_of_block (a := ⟨g, i, none⟩) (hb.block g h.lt)).trans (h.at_ i hi)⟩
theorem PB.grown {w w' : World} {g b : Nat} {q : List Int} (h : PB w g q) (hg : w.grownBy w' (some b)) (hne : g ≠ b) : PB w' g q :=
  ⟨Nat.lt_of_lt_of_le h.lt hg.size, fun i hi => (World.cell?_of_block (a := ⟨g, i, none⟩) (hg.block g h.lt (fun e => by injection e with e; exact hne e))).trans (h.at_ i hi)⟩
def cK (q : Nat) : Int := constT.getD q 0
/-- what stays through the hash -/
structure SW (w : World) (b4 b5 g : Nat) (q : List Int) (V : World) : Prop where
  r : ByAt V w.heap.size 26 zeros
  t : KAt .i64 25 V b4 49 (rT 24)
  k : KAt .u64 24 V b5 51 cK
  p : PB V g q
  b : Below w.heap.size w V
theorem ByAt.keepS {w w' : World} {b : Nat} {t : TypeId} {l : List Int} (h : ByAt w b t l) {N : Nat} (hg : w.grownBy w' (some N)) (hne : b ≠ N) : ByAt w' b t l :=
  (hg.block b (Array.getElem?_eq_some_iff.1 h).1 (fun e => by injection e with e; exact hne e)).trans h
section
variable {w V V' : World} {b4 b5 g : Nat} {q : List Int}
theorem SW.keep (h : SW w b4 b5 g q V) (hb : Below V.heap.size V V') : SW w b4 b5 g q V' := ⟨h.r.keep hb, h.t.keep hb, h.k.keep hb, h.p.keep hb, thenB h.b hb⟩
theorem SW.grown (h : SW w b4 b5 g q V) {N : Nat} (hN : w.heap.size < N ∧ b4 ≠ N ∧ b5 ≠ N ∧ g ≠ N) (hg : V.grownBy V' (some N)) : SW w b4 b5 g q V' :=
  ⟨h.r.keepS hg (by omega), h.t.grown hg hN.2.1, h.k.grown hg hN.2.2.1, h.p.grown hg hN.2.2.2, h.b.grown hg h.b.size (fun i e => by injection e with e; omega)⟩
end
/-- the numbers of a byte's round -/
structure NS (i n0 pl k8 r8 s8 j : Nat) : Prop where
  tq : ((i : Nat) : Int).tdiv 8 = (k8 : Int)
  wq : IntKind.i64.wrap (k8 : Int) = (k8 : Int)
  tm : ((i : Nat) : Int).tmod 8 = (r8 : Int)
  ws : IntKind.i64.wrap (8 * (r8 : Int)) = (s8 : Int)
  wj : IntKind.i64.wrap ((n0 : Int) + (i : Int)) = (j : Int)
  k1 : k8 < 25
  s1 : s8 < 64
  j1 : j < pl
  ek : k8 = i / 8
  es : s8 = 8 * (i % 8)
  ej : j = n0 + i
theorem ns_mk (i n0 pl : Nat) (hi : i < 136) (hn : n0 + 136 ≤ pl) (hp : pl ≤ 1000000000) : ∃ k8 r8 s8 j, NS i n0 pl k8 r8 s8 j := by
  refine ⟨i / 8, i % 8, 8 * (i % 8), n0 + i, ?_⟩
  constructor
  · exact (Int.tdiv_eq_ediv_of_nonneg (by omega)).trans (by omega)
  · exact IntWalk.i64_in _ (by omega)
  · exact (Int.tmod_eq_emod_of_nonneg (by omega)).trans (by omega)
  · exact (IntWalk.i64_in _ (by omega)).trans (by omega)
  · exact (IntWalk.i64_in _ (by omega)).trans (by omega)
  · omega
  · omega
  · omega
  · rfl
  · rfl
  · rfl
def qsF (q : List Int) (n0 : Nat) : List Int := (q.drop n0).take 136
theorem qsF_get (q : List Int) (n0 i : Nat) (hi : i < 136) : (qsF q n0).getD i 0 = q.getD (n0 + i) 0 := by
  unfold qsF
  rw [List.getD_eq_getElem?_getD, List.getD_eq_getElem?_getD, List.getElem?_take, if_pos hi, List.getElem?_drop]
theorem qsF_byt (q : List Int) (n0 : Nat) (h : ∀ i, 0 ≤ q.getD i 0 ∧ q.getD i 0 < 256) : ∀ i, 0 ≤ (qsF q n0).getD i 0 ∧ (qsF q n0).getD i 0 < 256 := by
  intro i
  by_cases hi : i < 136
  · rw [qsF_get q n0 i hi]; exact h _
  · unfold qsF
    rw [List.getD_eq_getElem?_getD, List.getElem?_take, if_neg hi]
    exact ⟨by decide, by decide⟩
def aR (f : Nat → Int) (q : List Int) (n0 i : Nat) : Nat → Int := addR f (fun i => (qsF q n0).getD i 0) i
theorem aR_step (f : Nat → Int) (q : List Int) (n0 i : Nat) (hi : i < 136) : upd (aR f q n0 i) (i / 8) (X (aR f q n0 i (i / 8)) (sh (q.getD (n0 + i) 0) (8 * (i % 8)))) = aR f q n0 (i + 1) := by
  rw [← qsF_get q n0 i hi]
  rfl
theorem wrap_byt (c : Int) (h : 0 ≤ c ∧ c < 256) : IntKind.u64.wrap c = c := by
  rw [IntKind.wrap_u64]
  omega
/-- the first i bytes of the hash -/
def oL (Z : Nat → Int) (i : Nat) : List Int := (List.range 32).map fun j => if j < i then IntKind.u8.wrap (Z (j / 8) / 2 ^ (8 * (j % 8))) else 0
theorem oL_length (Z : Nat → Int) (i : Nat) : (oL Z i).length = 32 := by simp [oL]
theorem oL_zero (Z : Nat → Int) : oL Z 0 = zeros := by
  unfold oL
  simp
  rfl
theorem oL_end (Z : Nat → Int) : oL Z 32 = outF Z := by
  unfold oL outF
  exact List.map_congr_left fun j hj => if_pos (by simpa using hj)
theorem oL_step (Z : Nat → Int) (i : Nat) (hi : i < 32) : (oL Z i).set i (IntKind.u8.wrap (Z (i / 8) / 2 ^ (8 * (i % 8)))) = oL Z (i + 1) := by
  apply List.ext_getElem?
  intro j
  rw [List.getElem?_set, oL_length]
  unfold oL
  by_cases hj : j < 32
  · rw [List.getElem?_map, List.getElem?_map, List.getElem?_range hj]
    by_cases h : i = j
    · subst h; rw [if_pos rfl, if_pos hi]; simp
    · rw [if_neg h]
      by_cases hk : j < i
      · simp [hk, show j < i + 1 by omega]
      · simp [hk, show ¬ j < i + 1 by omega]
  · rw [if_neg (by omega), List.getElem?_eq_none (by simp; omega), List.getElem?_eq_none (by simp; omega)]
theorem wpChain_kstore {P : Program} {ops : Array Oper} {l' : List Oper} {o : Oper} {a : Act} {w : World} {Q : Exit → Act → World → Prop} {S : World → Prop} (hgd : o.guard = none) (ty : TypeId) (x y : Operand) (ho : o.op = .store ty x y)
    (N : Nat) (hx : a.eval x = .pointer (some ⟨N, 0, none⟩)) (k : IntKind) (n : Nat) (g : Nat → Int) (hy : a.eval y = kv k n g) (hi : (P.info? ty).map (·.size) = some n) (T : TypeId) (f : Nat → Int) (h0 : KAt k n w N T f)
    (h : ∀ W, Hid (KAt k n W N T g) → Hid (w.grownBy W (some N)) → S W ∧ wpChain P ops Q S l' (a.put o.dst undef) W) : wpChain P ops Q S (o :: l') a w := by
  obtain ⟨h1, h2⟩ := h _ (h0.setAll g) (grownSetCells N _ _ w)
  exact wpChain_step hgd fun K hK => wp_store_mid ty x y ho N 0 (kc k n g).toArray hx hy (by rw [List.size_toArray, kc_length]; exact h0.there) (by rw [List.size_toArray, kc_length]; exact hi) (kc_one k n g) (hK _ _ h1 h2)
theorem infoC24 : (Tryd.prog.info? 51).map (·.size) = some 24 := by kernel_rfl
theorem infoT25 : (Tryd.prog.info? 49).map (·.size) = some 25 := by kernel_rfl
set_option maxRecDepth 100000 in
set_option maxHeartbeats 4000000 in
theorem rsum_any (w : World) (A : Option Addr) (c : Nat) (l : List Int) (hA : Bt w A l) (hc : l.length ≤ c) (hn : A = none → c = 0) (hl : l.length ≤ 900000000) :
    Calls Tryd.prog 12 #[.slice A l.length c] w fun x w' => x = .returned (dv (hashF l)) ∧ Below w.heap.size w w' := by
  obtain ⟨n, hnl⟩ : ∃ n, n = l.length := ⟨_, rfl⟩
  have HA := hide hA
  have HL : Hid (n = l.length ∧ l.length ≤ 900000000 ∧ l.length ≤ c) := ⟨hnl, hl, hc⟩
  have HNn := hide hn
  rw [← hnl]
  clear hnl hl hA hn hc
  go_enter Tryd.func12, Tryd.ntmps12
  go_upto_region 1 with fail
  generalize hX1 : w.alloc _ = W1
  have hB1 : Below w.heap.size w W1 := hX1 ▸ (Below.refl _ _).alloc (Nat.le_refl _) _
  have HR1 := hide (newBy w W1 (by rw [← hX1]; rfl))
  have HB1 := hide hB1
  have HZ1 : Hid (W1.heap.size = w.heap.size + 1) := by rw [← hX1]; show (w.heap.push _).size = _; rw [Array.size_push]
  clear hX1 hB1
  refine wp_region_lit ?_
  refine wpList_build0 rfl 48 rfl (kv .u64 25 fun _ => 0) (buildS _) ?_
  obtain ⟨cy, hcy⟩ : ∃ cs, cs = (kc .u64 25 fun _ => 0).toArray := ⟨_, rfl⟩
  rw [show kv .u64 25 (fun _ => 0) = .agg cy by rw [hcy]]
  have HCY := hide hcy
  clear hcy
  refine wpList_plain rfl fun Kt hKt => ?_
  go_simp
  refine hKt _ _ ?_
  clear hKt Kt
  generalize hX2 : W1.alloc _ = W2
  have hB2 : Below W1.heap.size W1 W2 := hX2 ▸ (Below.refl _ _).alloc (Nat.le_refl _) _
  have HN2 := hide (newK W1 W2 (k := .u64) (n := 25) (t := 48) (f := fun _ => 0) (by rw [← hX2]; rfl))
  have HR2 := hide ((unhide HR1).keep hB2)
  have HB2 := hide (thenB (unhide HB1) hB2)
  obtain ⟨N, hN⟩ : ∃ N, N = W1.heap.size := ⟨_, rfl⟩
  have HNZ : Hid (w.heap.size < N) := by show w.heap.size < N; rw [hN, unhide HZ1]; omega
  rw [← hN] at HN2 ⊢
  clear hX2 hB2 HR1 HB1 hN HZ1
  refine wpList_kstore rfl 48 (.tmp 3) (.tmp 12) rfl N rfl .u64 25 (fun _ => 0) (show Value.agg cy = _ by rw [unhide HCY]) infoS _ _ (unhide HN2) ?_
  intro W3 HK3 HG3
  have HR3 := hide ((unhide HR2).keepS (unhide HG3) (by have := unhide HNZ; omega))
  have HB3 := hide ((unhide HB2).grown (unhide HG3) (unhide HB2).size (fun i e => by injection e with e; have := unhide HNZ; omega))
  clear HG3 HR2 HB2 HN2
  try simp only [List.getElem_toArray, List.getElem_cons_zero, List.getElem_cons_succ, Act.put, List.setIfInBounds_toArray, List.set_cons_zero, List.set_cons_succ]
  go_wp2_with fail
  refine (rturns_any W3).mono ?_; rintro x W4 ⟨rfl, hb4⟩
  have HK4 := hide ((unhide HK3).keep hb4)
  have HR4 := hide ((unhide HR3).keep hb4)
  have HB4 := hide (thenB (unhide HB3) hb4)
  obtain ⟨ct, hct⟩ : ∃ cs, cs = (kc .i64 25 (rT 24)).toArray := ⟨_, rfl⟩
  rw [show kv .i64 25 (rT 24) = .agg ct by rw [hct]]
  have HCT := hide hct
  clear hct hb4 HK3 HR3 HB3
  dsimp only
  rename_i KK hK
  refine hK _ _ ?_
  clear hK KK
  refine wpList_plain rfl fun Kt hKt => ?_
  go_simp
  refine hKt _ _ ?_
  clear hKt Kt
  generalize hX5 : W4.alloc _ = W5
  have hB5 : Below W4.heap.size W4 W5 := hX5 ▸ (Below.refl _ _).alloc (Nat.le_refl _) _
  have HT5 := hide (newK W4 W5 (k := .i64) (n := 25) (t := 49) (f := fun _ => 0) (by rw [← hX5]; rfl))
  have HK5 := hide ((unhide HK4).keep hB5)
  have HR5 := hide ((unhide HR4).keep hB5)
  have HB5 := hide (thenB (unhide HB4) hB5)
  obtain ⟨b4, hb4⟩ : ∃ b4, b4 = W4.heap.size := ⟨_, rfl⟩
  have HZ4 : Hid (N < b4) := hb4 ▸ (unhide HK4).lt
  rw [← hb4] at HT5 ⊢
  clear hX5 hB5 HK4 HR4 HB4 hb4
  refine wpList_kstore rfl 49 (.tmp 4) (.tmp 13) rfl b4 rfl .i64 25 (rT 24) (show Value.agg ct = _ by rw [unhide HCT]) infoT25 _ _ (unhide HT5) ?_
  intro W6 HT6 HG6
  have HK6 := hide ((unhide HK5).grown (unhide HG6) (by have := unhide HZ4; omega))
  have HR6 := hide ((unhide HR5).keepS (unhide HG6) (by have := unhide HZ4; have := unhide HNZ; omega))
  have HB6 := hide ((unhide HB5).grown (unhide HG6) (unhide HB5).size (fun i e => by injection e with e; have := unhide HZ4; have := unhide HNZ; omega))
  clear HG6 HT5 HK5 HR5 HB5
  try simp only [List.getElem_toArray, List.getElem_cons_zero, List.getElem_cons_succ, Act.put, List.setIfInBounds_toArray, List.set_cons_zero, List.set_cons_succ]
  go_wp2_with fail
  refine (rconst_any W6).mono ?_; rintro x W7 ⟨rfl, hb7⟩
  have HK7 := hide ((unhide HK6).keep hb7)
  have HR7 := hide ((unhide HR6).keep hb7)
  have HB7 := hide (thenB (unhide HB6) hb7)
  have HT7 := hide ((unhide HT6).keep hb7)
  obtain ⟨cq, hcq⟩ : ∃ cs, cs = (kc .u64 24 (fun q => constT.getD q 0)).toArray := ⟨_, rfl⟩
  rw [show kv .u64 24 (fun q => constT.getD q 0) = .agg cq by rw [hcq]]
  have HCQ := hide hcq
  clear hcq hb7 HK6 HR6 HB6 HT6
  dsimp only
  rename_i KK hK
  refine hK _ _ ?_
  clear hK KK
  refine wpList_plain rfl fun Kt hKt => ?_
  go_simp
  refine hKt _ _ ?_
  clear hKt Kt
  generalize hX8 : W7.alloc _ = W8
  have hB8 : Below W7.heap.size W7 W8 := hX8 ▸ (Below.refl _ _).alloc (Nat.le_refl _) _
  have HQ8 := hide (newK W7 W8 (k := .u64) (n := 24) (t := 51) (f := fun _ => 0) (by rw [← hX8]; rfl))
  have HK8 := hide ((unhide HK7).keep hB8)
  have HR8 := hide ((unhide HR7).keep hB8)
  have HT8 := hide ((unhide HT7).keep hB8)
  have HB8 := hide (thenB (unhide HB7) hB8)
  obtain ⟨b5, hb5⟩ : ∃ b5, b5 = W7.heap.size := ⟨_, rfl⟩
  have HZ5 : Hid (b4 < b5) := hb5 ▸ (unhide HT7).lt
  rw [← hb5] at HQ8 ⊢
  clear hX8 hB8 HK7 HR7 HB7 HT7 hb5
  refine wpList_kstore rfl 51 (.tmp 5) (.tmp 14) rfl b5 rfl .u64 24 cK (show Value.agg cq = _ by rw [unhide HCQ]; rfl) infoC24 _ _ (unhide HQ8) ?_
  intro W9 HQ9 HG9
  have HK9 := hide ((unhide HK8).grown (unhide HG9) (by have := unhide HZ4; have := unhide HZ5; omega))
  have HT9 := hide ((unhide HT8).grown (unhide HG9) (by have := unhide HZ5; omega))
  have HR9 := hide ((unhide HR8).keepS (unhide HG9) (by have := unhide HZ4; have := unhide HNZ; have := unhide HZ5; omega))
  have HB9 := hide ((unhide HB8).grown (unhide HG9) (unhide HB8).size (fun i e => by injection e with e; have := unhide HZ4; have := unhide HNZ; have := unhide HZ5; omega))
  clear HG9 HQ8 HK8 HR8 HB8 HT8
  try simp only [List.getElem_toArray, List.getElem_cons_zero, List.getElem_cons_succ, Act.put, List.setIfInBounds_toArray, List.set_cons_zero, List.set_cons_succ]
  go_wp2_with fail
  have hpd := rpadded_any W9 A c l ((unhide HA).keep (unhide HB9)) (unhide HL).2.2 (unhide HNn) (unhide HL).2.1
  rw [← (unhide HL).1] at hpd
  refine hpd.mono ?_; rintro x W10 ⟨v, rfl, hown, hb10⟩
  obtain ⟨g, cap, rfl, hbg, hcell, -⟩ := hown.opened (by intro h; have := padR_pos l; rw [h] at this; simp at this)
  have HPB : Hid (PB W10 g (padR l)) := ⟨(hown.lt g rfl).2, fun i hi => (hcell i hi).1⟩
  have HZ6 : Hid (W9.heap.size ≤ g) := hbg
  have HZ7 : Hid (b5 < W9.heap.size) := (unhide HQ9).lt
  have HNE : Hid (w.heap.size < N ∧ b4 ≠ N ∧ b5 ≠ N ∧ g ≠ N) := by
    have h1 := unhide HZ4; have h2 := unhide HNZ; have h3 := unhide HZ5; have h4 := unhide HZ6; have h5 := unhide HZ7
    exact ⟨h2, by omega, by omega, by omega⟩
  have HS := hide (SW.mk (q := padR l) ((unhide HR9).keep hb10) ((unhide HT9).keep hb10) ((unhide HQ9).keep hb10) (unhide HPB) (thenB (unhide HB9) hb10))
  have HK := hide ((unhide HK9).keep hb10)
  obtain ⟨q, hq⟩ : ∃ q, q = padR l := ⟨_, rfl⟩
  obtain ⟨m, hm⟩ : ∃ m, m = l.length / 136 + 1 := ⟨_, rfl⟩
  obtain ⟨pl, hpl⟩ : ∃ pl, pl = (padR l).length := ⟨_, rfl⟩
  have HQ : Hid (q = padR l ∧ m = l.length / 136 + 1 ∧ pl = 136 * m ∧ q.length = pl ∧ m ≤ 7000000) := ⟨hq, hm, by rw [hpl, hm, padR_length], by rw [hq, hpl], by have := (unhide HL).2.1; omega⟩
  rw [← hq] at HS
  rw [← hpl]
  have HBY : Hid (∀ i, 0 ≤ q.getD i 0 ∧ q.getD i 0 < 256) := by
    intro i
    rw [hq, List.getD_eq_getElem?_getD]
    cases h : (padR l)[i]? with
    | none => exact ⟨by decide, by decide⟩
    | some u => exact padR_byt l (fun c hc => (unhide HA).byt c hc) u (List.mem_of_getElem? h)
  clear hpd hown hb10 hbg hcell HPB HZ6 HZ7 HZ4 HZ5 HNZ HQ9 HK9 HT9 HR9 HB9 hq hm hpl
  go_wp2_with fail
  go_loopg [7] m (fun gg y7 wx => ∃ b : Nat, y7 = .int .i64 ((136 * b : Nat) : Int) ∧ b + gg = m ∧ KAt .u64 25 wx N 48 (blkF (fun _ => 0) q b) ∧ SW w b4 b5 g q wx)
  case atStart => exact ⟨0, rfl, by omega, unhide HK, unhide HS⟩
  case round =>
    clear HK HS
    obtain ⟨b, rfl, hbg, hk, hs⟩ := hrel
    have HK := hide hk; have HS := hide hs
    clear hk hs
    obtain ⟨n0, hn0⟩ : ∃ n0, n0 = 136 * b := ⟨_, rfl⟩
    rw [← hn0]
    by_cases hb : b < m
    · obtain ⟨gg, rfl⟩ : ∃ g, gk = g + 1 := ⟨gk - 1, by omega⟩
      have HBM : Hid (b + (gg + 1) = m ∧ b < m ∧ n0 = 136 * b ∧ n0 + 136 ≤ pl ∧ pl ≤ 1000000000) := by
        have := unhide HQ
        exact ⟨hbg, hb, hn0, by omega, by omega⟩
      have n1 : (n0 : Int) < (pl : Int) := by have := unhide HBM; omega
      have wn : IntKind.i64.wrap ((n0 : Int) + 136) = ((136 * (b + 1) : Nat) : Int) := (IntWalk.i64_in _ (by have := unhide HBM; omega)).trans (by omega)
      obtain ⟨F, hF⟩ : ∃ F, F = blkF (fun _ => 0) q b := ⟨_, rfl⟩
      rw [← hF] at HK
      have HF := hide hF
      clear hbg hb hn0 hF
      go_wp2_with fail
      go_loopg [8] 136 (fun g8 y8 wx => ∃ i : Nat, y8 = .int .i64 (i : Int) ∧ i + g8 = 136 ∧ KAt .u64 25 wx N 48 (aR F q n0 i) ∧ SW w b4 b5 g q wx)
      case atStart => exact ⟨0, rfl, by omega, unhide HK, unhide HS⟩
      case round =>
        clear HK HS
        obtain ⟨i, rfl, hig, hk, hs⟩ := hrel
        have HK := hide hk; have HS := hide hs
        clear hk hs
        by_cases hi : i < 136
        · obtain ⟨g2, rfl⟩ : ∃ g, gk = g + 1 := ⟨gk - 1, by omega⟩
          have i1 : (i : Int) < 136 := by omega
          have wi : IntKind.i64.wrap ((i : Int) + 1) = ((i + 1 : Nat) : Int) := (IntWalk.i64_in _ (by omega)).trans (by omega)
          obtain ⟨k8, r8, s8, j, ns⟩ := ns_mk i n0 pl hi (unhide HBM).2.2.2.1 (unhide HBM).2.2.2.2
          have HNS : Hid (i + (g2 + 1) = 136 ∧ i < 136 ∧ NS i n0 pl k8 r8 s8 j) := ⟨hig, hi, ns⟩
          have tq := ns.tq
          have wq := ns.wq
          have tm := ns.tm
          have ws := ns.ws
          have wj := ns.wj
          have k0 : (0 : Int) ≤ (k8 : Int) := Int.natCast_nonneg _
          have k1 : (k8 : Int) < 25 := lt_int ns.k1
          have j0 : (0 : Int) ≤ (j : Int) := Int.natCast_nonneg _
          have j1 : (j : Int) < (pl : Int) := lt_int ns.j1
          have s0 : (0 : Int) ≤ (s8 : Int) := Int.natCast_nonneg _
          have s1 : (s8 : Int) < 64 := lt_int ns.s1
          obtain ⟨cv, hcv⟩ : ∃ cv, cv = q.getD j 0 := ⟨_, rfl⟩
          have wc : IntKind.u64.wrap cv = cv := wrap_byt cv (hcv ▸ unhide HBY j)
          have hs1 := shift_shl .u64 .i64 cv (s8 : Int) s0 (by simp [IntKind.bits]; omega)
          have HCV := hide hcv
          clear hig hi ns
          go_wp2_with fail
          obtain ⟨W, hW⟩ : ∃ W, W = wr.drewN 1 := ⟨_, rfl⟩
          have HW : Hid (W = wr.drewN 1) := hW
          have HKW := hide ((unhide HK).keep (below_named HW))
          have HSW := hide ((unhide HS).keep (below_named HW))
          have hSW : PB W g q := (unhide HSW).p
          have hfp : ∀ V, PB V g q → V.cell? ⟨g, j, none⟩ = some (.int .u8 cv) := fun V hV => by
            rw [hcv]
            exact hV.at_ j (by rw [(unhide HQ).2.2.2.1]; exact (unhide HNS).2.2.j1)
          have hcC := (unhide HKW).cell (unhide HNS).2.2.k1
          have hcF := (unhide HKW).free k8
          obtain ⟨aa, haa⟩ : ∃ aa, aa = aR F q n0 i k8 := ⟨_, rfl⟩
          rw [← haa] at hcC
          have HAA := hide haa
          clear hW HK HS hcv haa
          refine held (S := fun V => PB V g q) W HW (by kernel_rfl) ?_
          refine wpAnyH_take (i := 0) (v := ?_) rfl (by kernel_rfl) (by kernel_rfl) (by kernel_rfl) (fun _ _ _ h => h) (Or.inl ⟨by kernel_rfl, ?_⟩) (by assumption) ?_
          rotate_left
          · intro Wt hSt
            go_simp
            try with_reducible rfl
          try simp only [List.getElem_toArray, List.getElem_cons_zero, List.getElem_cons_succ, Act.put, List.setIfInBounds_toArray, List.set_cons_zero, List.set_cons_succ]
          refine wpAnyH_take (i := 1) (v := ?_) rfl (by kernel_rfl) (by kernel_rfl) (by kernel_rfl) (fun _ _ _ h => h) (Or.inl ⟨by kernel_rfl, ?_⟩) (by assumption) ?_
          rotate_left
          · intro Wt hSt
            go_simp
            try with_reducible rfl
          try simp only [List.getElem_toArray, List.getElem_cons_zero, List.getElem_cons_succ, Act.put, List.setIfInBounds_toArray, List.set_cons_zero, List.set_cons_succ]
          refine wpAnyH_take (i := 2) (v := ?_) rfl (by kernel_rfl) (by kernel_rfl) (by kernel_rfl) (fun _ _ _ h => h) (Or.inl ⟨by kernel_rfl, ?_⟩) (by assumption) ?_
          rotate_left
          · intro Wt hSt
            go_simp
            try with_reducible rfl
          try simp only [List.getElem_toArray, List.getElem_cons_zero, List.getElem_cons_succ, Act.put, List.setIfInBounds_toArray, List.set_cons_zero, List.set_cons_succ]
          refine wpAnyH_take (i := 3) (v := ?_) rfl (by kernel_rfl) (by kernel_rfl) (by kernel_rfl) (fun _ _ _ h => h) (Or.inl ⟨by kernel_rfl, ?_⟩) (by assumption) ?_
          rotate_left
          · intro Wt hSt
            go_simp
            try with_reducible rfl
          try simp only [List.getElem_toArray, List.getElem_cons_zero, List.getElem_cons_succ, Act.put, List.setIfInBounds_toArray, List.set_cons_zero, List.set_cons_succ]
          refine wpAnyH_take (i := 4) (v := ?_) rfl (by kernel_rfl) (by kernel_rfl) (by kernel_rfl) (fun _ _ _ h => h) (Or.inl ⟨by kernel_rfl, ?_⟩) (by assumption) ?_
          rotate_left
          · intro Wt hSt
            go_simp
            try with_reducible rfl
          try simp only [List.getElem_toArray, List.getElem_cons_zero, List.getElem_cons_succ, Act.put, List.setIfInBounds_toArray, List.set_cons_zero, List.set_cons_succ]
          refine wpAnyH_take (i := 6) (v := ?_) rfl (by kernel_rfl) (by kernel_rfl) (by kernel_rfl) (fun _ _ _ h => h) (Or.inl ⟨by kernel_rfl, ?_⟩) (by assumption) ?_
          rotate_left
          · intro Wt hSt
            go_simp
            try with_reducible rfl
          try simp only [List.getElem_toArray, List.getElem_cons_zero, List.getElem_cons_succ, Act.put, List.setIfInBounds_toArray, List.set_cons_zero, List.set_cons_succ]
          refine wpAnyH_take (i := 7) (v := ?_) rfl (by kernel_rfl) (by kernel_rfl) (by kernel_rfl) (fun _ _ _ h => h) (Or.inl ⟨by kernel_rfl, ?_⟩) (by assumption) ?_
          rotate_left
          · intro Wt hSt
            go_simp
            try with_reducible rfl
          try simp only [List.getElem_toArray, List.getElem_cons_zero, List.getElem_cons_succ, Act.put, List.setIfInBounds_toArray, List.set_cons_zero, List.set_cons_succ]
          refine wpAnyH_take (i := 8) (v := ?_) rfl (by kernel_rfl) (by kernel_rfl) (by kernel_rfl) (fun _ _ _ h => h) (Or.inl ⟨by kernel_rfl, ?_⟩) (by assumption) ?_
          rotate_left
          · intro Wt hSt
            go_simp
            try with_reducible rfl
          try simp only [List.getElem_toArray, List.getElem_cons_zero, List.getElem_cons_succ, Act.put, List.setIfInBounds_toArray, List.set_cons_zero, List.set_cons_succ]
          refine wpAnyH_take (i := 9) (v := ?_) rfl (by kernel_rfl) (by kernel_rfl) (by kernel_rfl) (fun _ _ _ h => h) (Or.inl ⟨by kernel_rfl, ?_⟩) (by assumption) ?_
          rotate_left
          · intro Wt hSt
            go_simp
            try with_reducible rfl
          try simp only [List.getElem_toArray, List.getElem_cons_zero, List.getElem_cons_succ, Act.put, List.setIfInBounds_toArray, List.set_cons_zero, List.set_cons_succ]
          refine wpAnyH_take (i := 10) (v := ?_) rfl (by kernel_rfl) (by kernel_rfl) (by kernel_rfl) (fun _ _ _ h => h) (Or.inl ⟨by kernel_rfl, ?_⟩) (by assumption) ?_
          rotate_left
          · intro Wt hSt
            go_simp
            try with_reducible rfl
          try simp only [List.getElem_toArray, List.getElem_cons_zero, List.getElem_cons_succ, Act.put, List.setIfInBounds_toArray, List.set_cons_zero, List.set_cons_succ]
          refine wpAnyH_take (i := 11) (v := ?_) rfl (by kernel_rfl) (by kernel_rfl) (by kernel_rfl) (fun _ _ _ h => h) (Or.inl ⟨by kernel_rfl, ?_⟩) (by assumption) ?_
          rotate_left
          · intro Wt hSt
            go_simp
            try with_reducible rfl
          try simp only [List.getElem_toArray, List.getElem_cons_zero, List.getElem_cons_succ, Act.put, List.setIfInBounds_toArray, List.set_cons_zero, List.set_cons_succ]
          refine wpAnyH_take (i := 12) (v := ?_) rfl (by kernel_rfl) (by kernel_rfl) (by kernel_rfl) (fun _ _ _ h => h) (Or.inl ⟨by kernel_rfl, ?_⟩) (by assumption) ?_
          rotate_left
          · intro Wt hSt
            go_simp
            try with_reducible rfl
          try simp only [List.getElem_toArray, List.getElem_cons_zero, List.getElem_cons_succ, Act.put, List.setIfInBounds_toArray, List.set_cons_zero, List.set_cons_succ]
          refine wpAnyH_take (i := 13) (v := ?_) rfl (by kernel_rfl) (by kernel_rfl) (by kernel_rfl) (fun _ _ _ h => h) (Or.inl ⟨by kernel_rfl, ?_⟩) (by assumption) ?_
          rotate_left
          · intro Wt hSt
            go_simp
            try with_reducible rfl
          try simp only [List.getElem_toArray, List.getElem_cons_zero, List.getElem_cons_succ, Act.put, List.setIfInBounds_toArray, List.set_cons_zero, List.set_cons_succ]
          refine wpAnyH_take (i := 14) (v := ?_) rfl (by kernel_rfl) (by kernel_rfl) (by kernel_rfl) (fun _ _ _ h => h) (Or.inl ⟨by kernel_rfl, ?_⟩) (by assumption) ?_
          rotate_left
          · intro Wt hSt
            go_simp
            try with_reducible rfl
          try simp only [List.getElem_toArray, List.getElem_cons_zero, List.getElem_cons_succ, Act.put, List.setIfInBounds_toArray, List.set_cons_zero, List.set_cons_succ]
          refine wpAnyH_take (i := 15) (v := ?_) rfl (by kernel_rfl) (by kernel_rfl) (by kernel_rfl) (fun _ _ _ h => h) (Or.inl ⟨by kernel_rfl, ?_⟩) (by assumption) ?_
          rotate_left
          · intro Wt hSt
            go_simp
            try with_reducible rfl
          try simp only [List.getElem_toArray, List.getElem_cons_zero, List.getElem_cons_succ, Act.put, List.setIfInBounds_toArray, List.set_cons_zero, List.set_cons_succ]
          refine wpAnyH_take (i := 16) (v := ?_) rfl (by kernel_rfl) (by kernel_rfl) (by kernel_rfl) (fun _ _ _ h => h) (Or.inl ⟨by kernel_rfl, ?_⟩) (by assumption) ?_
          rotate_left
          · intro Wt hSt
            go_simp
            try with_reducible rfl
          try simp only [List.getElem_toArray, List.getElem_cons_zero, List.getElem_cons_succ, Act.put, List.setIfInBounds_toArray, List.set_cons_zero, List.set_cons_succ]
          refine wpAnyH_one 5 _ rfl (by kernel_rfl) (by kernel_rfl) ?_
          intro K' hK
          go_simp
          refine hK _ _ hSW ?_
          clear hK K'
          try simp only [List.getElem_toArray, List.getElem_cons_zero, List.getElem_cons_succ, Act.put, List.setIfInBounds_toArray, List.set_cons_zero, List.set_cons_succ]
          refine wpAnyH_take (i := 17) (v := ?_) rfl (by kernel_rfl) (by kernel_rfl) (by kernel_rfl) (fun _ _ _ h => h) (Or.inl ⟨by kernel_rfl, ?_⟩) (by assumption) ?_
          rotate_left
          · intro Wt hSt
            go_simp
            try with_reducible rfl
          try simp only [List.getElem_toArray, List.getElem_cons_zero, List.getElem_cons_succ, Act.put, List.setIfInBounds_toArray, List.set_cons_zero, List.set_cons_succ]
          refine wpAnyH_take (i := 18) (v := ?_) rfl (by kernel_rfl) (by kernel_rfl) (by kernel_rfl) (fun _ _ _ h => h) (Or.inl ⟨by kernel_rfl, ?_⟩) (by assumption) ?_
          rotate_left
          · intro Wt hSt
            go_simp
            try with_reducible rfl
          try simp only [List.getElem_toArray, List.getElem_cons_zero, List.getElem_cons_succ, Act.put, List.setIfInBounds_toArray, List.set_cons_zero, List.set_cons_succ]
          refine wpAnyH_chainOf [19] _ _ _ (by kernel_rfl) (by kernel_rfl) ?_
          simp only [List.filterMap_cons, List.filterMap_nil, List.getElem?_toArray, List.getElem?_cons_zero, List.getElem?_cons_succ]
          refine wpChain_step rfl fun K' hK => ?_
          go_simp
          have hs9 : PB (W.setCell ⟨N, k8, none⟩ (.int .u64 (X aa (sh cv s8)))) g q := PB.grown hSW (grown_one W _ _ _) (unhide HNE).2.2.2
          refine hK _ _ hs9 (wpChain_nil ?_)
          clear hK K' hs9
          go_wp2_with fail
          go_roundg g2
          case measure => omega
          case rel =>
            have h := unhide HNS
            have hk := (unhide HKW).set h.2.2.k1 (X aa (sh cv s8))
            refine ⟨i + 1, rfl, by omega, ?_, (unhide HSW).grown (unhide HNE) (grown_one W _ _ _)⟩
            rw [← aR_step F q n0 i h.2.1]
            rw [unhide HAA, unhide HCV, h.2.2.ej, h.2.2.es, h.2.2.ek] at hk
            rw [unhide HAA, unhide HCV, h.2.2.ej, h.2.2.es, h.2.2.ek]
            exact hk
        · have i1 : ¬ (i : Int) < 136 := by omega
          obtain rfl : i = 136 := by omega
          clear hig hi
          have HKG := hide ((unhide HK).fn (fun j _ => addR_eq F (qsF q n0) (qsF_byt q n0 (unhide HBY)) j 17))
          obtain ⟨G, hG⟩ : ∃ G, G = addF F (qsF q n0) 17 := ⟨_, rfl⟩
          rw [← hG] at HKG
          have HG := hide hG
          clear HK hG
          go_wp2_with fail
          go_loopg [9] 24 (fun g9 y9 wx => ∃ i : Nat, y9 = .int .i64 (i : Int) ∧ i + g9 = 24 ∧ KAt .u64 25 wx N 48 (permN G i) ∧ SW w b4 b5 g q wx)
          case atStart => exact ⟨0, rfl, by omega, unhide HKG, unhide HS⟩
          case round =>
            clear HKG HS
            obtain ⟨i, rfl, hig, hk, hs⟩ := hrel
            have HK := hide hk; have HS := hide hs
            clear hk hs
            by_cases hi : i < 24
            · obtain ⟨g2, rfl⟩ : ∃ g, gk = g + 1 := ⟨gk - 1, by omega⟩
              have i1 : (i : Int) < 24 := by omega
              have i0 : (0 : Int) ≤ (i : Int) := Int.natCast_nonneg _
              have wi : IntKind.i64.wrap ((i : Int) + 1) = ((i + 1 : Nat) : Int) := (IntWalk.i64_in _ (by omega)).trans (by omega)
              obtain ⟨kk, hkk⟩ : ∃ kk, kk = constT.getD i 0 := ⟨_, rfl⟩
              have HNI : Hid (i + (g2 + 1) = 24 ∧ i < 24 ∧ kk = constT.getD i 0) := ⟨hig, hi, hkk⟩
              clear hig hi hkk
              go_wp2_with fail
              obtain ⟨W, hW⟩ : ∃ W, W = wr.drewN 1 := ⟨_, rfl⟩
              have HW : Hid (W = wr.drewN 1) := hW
              have HKW := hide ((unhide HK).keep (below_named HW))
              have hSW : SW w b4 b5 g q W := (unhide HS).keep (below_named HW)
              obtain ⟨cu, hcu⟩ : ∃ cu, cu = kc .u64 25 (permN G i) := ⟨_, rfl⟩
              obtain ⟨cz, hcz⟩ : ∃ cz, cz = kc .i64 25 (rT 24) := ⟨_, rfl⟩
              have HRU : Hid (W.rangeAt N 0 cu ∧ cu.length = 25) := by rw [hcu]; exact ⟨(unhide HKW).range, kc_length _ _ _⟩
              have HRZ : Hid (W.rangeAt b4 0 cz ∧ cz.length = 25) := by rw [hcz]; exact ⟨hSW.t.range, kc_length _ _ _⟩
              have HRD : Hid (Calls Tryd.prog 31 #[.agg cu.toArray, .agg cz.toArray, .int .u64 kk] W fun x w' => x = .returned (kv .u64 25 (rndR (permN G i) kk)) ∧ Below W.heap.size W w') := by
                rw [hcu, hcz]; exact rround_any W (permN G i) kk
              have hfk : ∀ V, SW w b4 b5 g q V → V.cell? ⟨b5, i, none⟩ = some (.int .u64 kk) := fun V hV => by
                rw [(unhide HNI).2.2]; exact hV.k.cell (unhide HNI).2.1
              clear hW HK HS hcu hcz
              refine held (S := fun V => SW w b4 b5 g q V) W HW (by kernel_rfl) ?_
              refine wpAnyH_take (i := 2) (v := ?_) rfl (by kernel_rfl) (by kernel_rfl) (by kernel_rfl) (fun _ _ _ h => h) (Or.inl ⟨by kernel_rfl, ?_⟩) (by assumption) ?_
              rotate_left
              · intro Wt hSt
                go_simp
                try with_reducible rfl
              try simp only [List.getElem_toArray, List.getElem_cons_zero, List.getElem_cons_succ, Act.put, List.setIfInBounds_toArray, List.set_cons_zero, List.set_cons_succ]
              refine wpAnyH_take (i := 3) (v := ?_) rfl (by kernel_rfl) (by kernel_rfl) (by kernel_rfl) (fun _ _ _ h => h) (Or.inl ⟨by kernel_rfl, ?_⟩) (by assumption) ?_
              rotate_left
              · intro Wt hSt
                go_simp
                try with_reducible rfl
              try simp only [List.getElem_toArray, List.getElem_cons_zero, List.getElem_cons_succ, Act.put, List.setIfInBounds_toArray, List.set_cons_zero, List.set_cons_succ]
              refine wpAnyH_take (i := 4) (v := ?_) rfl (by kernel_rfl) (by kernel_rfl) (by kernel_rfl) (fun _ _ _ h => h) (Or.inl ⟨by kernel_rfl, ?_⟩) (by assumption) ?_
              rotate_left
              · intro Wt hSt
                go_simp
                try with_reducible rfl
              try simp only [List.getElem_toArray, List.getElem_cons_zero, List.getElem_cons_succ, Act.put, List.setIfInBounds_toArray, List.set_cons_zero, List.set_cons_succ]
              refine wpAnyH_two 0 1 _ _ rfl rfl (by kernel_rfl) (by kernel_rfl) (by kernel_rfl) ?_ ?_
              · intro K' hK
                refine wp_load_mid 48 (.tmp 3) rfl N 0 rfl cu _ (unhide HRU).1 Tryd.underlying48 rfl (by rw [(unhide HRU).2]; exact infoS) ?_
                refine hK _ _ hSW ?_
                clear hK K'
                try simp only [List.getElem_toArray, List.getElem_cons_zero, List.getElem_cons_succ, Act.put, List.setIfInBounds_toArray, List.set_cons_zero, List.set_cons_succ]
                refine wpAnyH_one 1 _ rfl (by kernel_rfl) (by kernel_rfl) ?_
                intro K' hK
                refine wp_load_mid 49 (.tmp 4) rfl b4 0 rfl cz _ (unhide HRZ).1 Tryd.underlying49 rfl (by rw [(unhide HRZ).2]; exact infoT25) ?_
                refine hK _ _ hSW ?_
                clear hK K'
                try simp only [List.getElem_toArray, List.getElem_cons_zero, List.getElem_cons_succ, Act.put, List.setIfInBounds_toArray, List.set_cons_zero, List.set_cons_succ]
                refine wpAnyH_one 5 _ rfl (by kernel_rfl) (by kernel_rfl) ?_
                intro K' hK
                go_simp
                refine (unhide HRD).mono ?_; rintro e0 V ⟨rfl, hb⟩
                have hSV := SW.keep hSW hb
                have HKV := hide ((unhide HKW).keep hb)
                obtain ⟨ce, hce⟩ : ∃ ce, ce = (kc .u64 25 (rndR (permN G i) kk)).toArray := ⟨_, rfl⟩
                rw [show kv .u64 25 (rndR (permN G i) kk) = .agg ce by rw [hce]]
                have HCE := hide hce
                clear hce hb
                dsimp only
                refine hK _ _ hSV ?_
                clear hK K'
                try simp only [List.getElem_toArray, List.getElem_cons_zero, List.getElem_cons_succ, Act.put, List.setIfInBounds_toArray, List.set_cons_zero, List.set_cons_succ]
                refine wpAnyH_chainOf [6] _ _ _ (by kernel_rfl) (by kernel_rfl) ?_
                simp only [List.filterMap_cons, List.filterMap_nil, List.getElem?_toArray, List.getElem?_cons_zero, List.getElem?_cons_succ]
                refine wpChain_kstore rfl 48 (.tmp 3) (.tmp 55) rfl N rfl .u64 25 (rndR (permN G i) kk) (show Value.agg ce = _ by rw [unhide HCE]) infoS _ (permN G i) (unhide HKV) ?_
                intro V2 HK2 HG2
                have HS2 := hide (SW.grown hSV (unhide HNE) (unhide HG2))
                refine ⟨unhide HS2, wpChain_nil ?_⟩
                clear hSV HKV HG2 hSW
                go_wp2_with fail
                go_roundg g2
                case measure => omega
                case rel =>
                  have h := unhide HNI
                  exact ⟨i + 1, rfl, by omega, (unhide HK2).fn (fun j hj => by rw [h.2.2]; exact rndR_eq (permN G i) i j hj), unhide HS2⟩
              · intro K' hK
                refine wp_load_mid 49 (.tmp 4) rfl b4 0 rfl cz _ (unhide HRZ).1 Tryd.underlying49 rfl (by rw [(unhide HRZ).2]; exact infoT25) ?_
                refine hK _ _ hSW ?_
                clear hK K'
                try simp only [List.getElem_toArray, List.getElem_cons_zero, List.getElem_cons_succ, Act.put, List.setIfInBounds_toArray, List.set_cons_zero, List.set_cons_succ]
                refine wpAnyH_one 0 _ rfl (by kernel_rfl) (by kernel_rfl) ?_
                intro K' hK
                refine wp_load_mid 48 (.tmp 3) rfl N 0 rfl cu _ (unhide HRU).1 Tryd.underlying48 rfl (by rw [(unhide HRU).2]; exact infoS) ?_
                refine hK _ _ hSW ?_
                clear hK K'
                try simp only [List.getElem_toArray, List.getElem_cons_zero, List.getElem_cons_succ, Act.put, List.setIfInBounds_toArray, List.set_cons_zero, List.set_cons_succ]
                refine wpAnyH_one 5 _ rfl (by kernel_rfl) (by kernel_rfl) ?_
                intro K' hK
                go_simp
                refine (unhide HRD).mono ?_; rintro e0 V ⟨rfl, hb⟩
                have hSV := SW.keep hSW hb
                have HKV := hide ((unhide HKW).keep hb)
                obtain ⟨ce, hce⟩ : ∃ ce, ce = (kc .u64 25 (rndR (permN G i) kk)).toArray := ⟨_, rfl⟩
                rw [show kv .u64 25 (rndR (permN G i) kk) = .agg ce by rw [hce]]
                have HCE := hide hce
                clear hce hb
                dsimp only
                refine hK _ _ hSV ?_
                clear hK K'
                try simp only [List.getElem_toArray, List.getElem_cons_zero, List.getElem_cons_succ, Act.put, List.setIfInBounds_toArray, List.set_cons_zero, List.set_cons_succ]
                refine wpAnyH_chainOf [6] _ _ _ (by kernel_rfl) (by kernel_rfl) ?_
                simp only [List.filterMap_cons, List.filterMap_nil, List.getElem?_toArray, List.getElem?_cons_zero, List.getElem?_cons_succ]
                refine wpChain_kstore rfl 48 (.tmp 3) (.tmp 55) rfl N rfl .u64 25 (rndR (permN G i) kk) (show Value.agg ce = _ by rw [unhide HCE]) infoS _ (permN G i) (unhide HKV) ?_
                intro V2 HK2 HG2
                have HS2 := hide (SW.grown hSV (unhide HNE) (unhide HG2))
                refine ⟨unhide HS2, wpChain_nil ?_⟩
                clear hSV HKV HG2 hSW
                go_wp2_with fail
                go_roundg g2
                case measure => omega
                case rel =>
                  have h := unhide HNI
                  exact ⟨i + 1, rfl, by omega, (unhide HK2).fn (fun j hj => by rw [h.2.2]; exact rndR_eq (permN G i) i j hj), unhide HS2⟩
            · have i1 : ¬ (i : Int) < 24 := by omega
              obtain rfl : i = 24 := by omega
              clear hig hi
              go_wp2_with fail
              go_roundg gg
              case measure => omega
              case rel =>
                have h := unhide HBM
                refine ⟨b + 1, rfl, by omega, (unhide HK).fn (fun j _ => ?_), unhide HS⟩
                rw [unhide HG, unhide HF, h.2.2.1]
                rfl
    · have n1 : ¬ (n0 : Int) < (pl : Int) := by have := unhide HQ; omega
      have HBM : Hid (b = m) := by show b = m; omega
      obtain ⟨Z, hZ⟩ : ∃ Z, Z = blkF (fun _ => 0) q b := ⟨_, rfl⟩
      rw [← hZ] at HK
      have HOUT : Hid (outF Z = hashF l) := by
        have h := unhide HQ
        show outF Z = hashF l
        rw [hZ, unhide HBM, h.1, h.2.1]
        exact (hashF_blk l).symm
      have HR := hide (unhide HS).r
      have HB := hide (unhide HS).b
      have HNN : Hid (w.heap.size < N) := (unhide HNE).1
      clear hbg hb hn0 hZ HS HNE HBY HQ HBM
      go_upto_region 16 with fail
      refine wp_region_lit ?_
      refine wpList_build0 rfl 26 rfl (dv zeros) (build_zero _) ?_
      obtain ⟨cd, hcd⟩ : ∃ cs, cs = (zeros.map (Value.int .u8)).toArray := ⟨_, rfl⟩
      rw [show dv zeros = .agg cd by rw [hcd]]
      have HCD := hide hcd
      clear hcd
      refine wpList_plain rfl fun Kt hKt => ?_
      go_simp
      refine hKt _ _ ?_
      clear hKt Kt
      generalize hX : wr.alloc _ = V1
      have hV1 : Below wr.heap.size wr V1 := hX ▸ (Below.refl _ _).alloc (Nat.le_refl _) _
      have HD1 := hide (newBy wr V1 (by rw [← hX]; rfl))
      have HK1 := hide ((unhide HK).keep hV1)
      have HR1 := hide ((unhide HR).keep hV1)
      have HB1 := hide (thenB (unhide HB) hV1)
      obtain ⟨M, hM⟩ : ∃ M, M = wr.heap.size := ⟨_, rfl⟩
      have HMN : Hid (N < M ∧ w.heap.size < M) := ⟨hM ▸ (unhide HK).lt, by have h1 := (unhide HK).lt; have h2 := unhide HNN; omega⟩
      rw [← hM] at HD1 ⊢
      clear hX hV1 hM HK HR HB
      refine wpList_bstore rfl 26 (.tmp 10) (.tmp 56) rfl M rfl zeros (show Value.agg cd = _ by rw [unhide HCD]) 32 info32 rfl _ zeros (unhide HD1) rfl ?_
      intro V2 HD2 HG2
      have HK2 := hide ((unhide HK1).grown (unhide HG2) (by have := unhide HMN; omega))
      have HR2 := hide ((unhide HR1).grown (unhide HG2) (by have := unhide HMN; omega))
      have HB2 := hide ((unhide HB1).grown (unhide HG2) (unhide HB1).size (fun i e => by injection e with e; have := unhide HMN; omega))
      clear HG2 HD1 HK1 HR1 HB1
      try simp only [List.getElem_toArray, List.getElem_cons_zero, List.getElem_cons_succ, Act.put, List.setIfInBounds_toArray, List.set_cons_zero, List.set_cons_succ]
      go_wp2_with fail
      go_loopg [11] 32 (fun g y11 wx => ∃ i : Nat, y11 = .int .i64 (i : Int) ∧ i + g = 32 ∧ ByAt wx M 26 (oL Z i) ∧ KAt .u64 25 wx N 48 Z ∧ ByAt wx w.heap.size 26 zeros ∧ Below w.heap.size w wx)
      case atStart => exact ⟨0, rfl, by omega, by rw [oL_zero]; exact unhide HD2, unhide HK2, unhide HR2, unhide HB2⟩
      case round =>
        clear HD2 HK2 HR2 HB2
        obtain ⟨i, rfl, hig, hd, hk, hr, hb⟩ := hrel
        have HD := hide hd; have HK := hide hk; have HR := hide hr; have HB := hide hb
        clear hd hk hr hb
        by_cases hi : i < 32
        · obtain ⟨g2, rfl⟩ : ∃ g, gk = g + 1 := ⟨gk - 1, by omega⟩
          have i1 : (i : Int) < 32 := by omega
          have i0 : (0 : Int) ≤ (i : Int) := Int.natCast_nonneg _
          have wi : IntKind.i64.wrap ((i : Int) + 1) = ((i + 1 : Nat) : Int) := (IntWalk.i64_in _ (by omega)).trans (by omega)
          obtain ⟨k8, r8, s8, j, ns⟩ := ns_mk i 0 136 (by omega) (by omega) (by omega)
          have HNS : Hid (i + (g2 + 1) = 32 ∧ i < 32 ∧ NS i 0 136 k8 r8 s8 j) := ⟨hig, hi, ns⟩
          have tq := ns.tq
          have wq := ns.wq
          have tm := ns.tm
          have ws := ns.ws
          have k0 : (0 : Int) ≤ (k8 : Int) := Int.natCast_nonneg _
          have k1 : (k8 : Int) < 25 := lt_int ns.k1
          have s0 : (0 : Int) ≤ (s8 : Int) := Int.natCast_nonneg _
          have hs1 := shift_shr .u64 .i64 (Z k8) (s8 : Int) s0 (by simp [IntKind.bits]; have := lt_int ns.s1; omega)
          rw [Int.toNat_natCast] at hs1
          have hcC := (unhide HK).cell ns.k1
          have hcD := (unhide HD).cell (j := i) (by rw [oL_length]; exact hi)
          have hcF := (unhide HD).free i
          clear hig hi ns
          go_wp2_with fail
          go_roundg g2
          case measure => omega
          case rel =>
            have h := unhide HNS
            have hset := (unhide HD).set i (IntKind.u8.wrap (Z k8 / 2 ^ s8))
            refine ⟨i + 1, rfl, by omega, ?_, (unhide HK).grown (grown_one wr M _ _) (by have := unhide HMN; omega), (unhide HR).grown (grown_one wr M _ _) (by have := unhide HMN; omega), (unhide HB).grown (grown_one wr M _ _) (unhide HB).size (fun i e => by injection e with e; have := unhide HMN; omega)⟩
            rw [← oL_step Z i h.2.1]
            rw [h.2.2.ek, h.2.2.es] at hset
            rw [h.2.2.ek, h.2.2.es]
            exact hset
        · have i1 : ¬ (i : Int) < 32 := by omega
          obtain rfl : i = 32 := by omega
          clear hig hi
          rw [oL_end, unhide HOUT] at HD
          go_upto_region 21 with fail
          refine wp_region_lit ?_
          refine wpList_bload rfl 26 (.tmp 10) rfl M rfl _ Tryd.underlying26 rfl 32 info32 _ (hashF l) (unhide HD) (hashF_length _) ?_
          refine wpList_bstore rfl 26 (.tmp 2) (.tmp 72) rfl w.heap.size rfl (hashF l) rfl 32 info32 (hashF_length _) _ zeros (unhide HR) rfl ?_
          intro V9 HV9 HG9
          have HB9 := hide ((unhide HB).grown (unhide HG9) (unhide HB).size (fun i e => by injection e with e; omega))
          obtain ⟨ch, hch⟩ : ∃ cs, cs = ((hashF l).map (Value.int .u8)).toArray := ⟨_, rfl⟩
          rw [show dv (hashF l) = .agg ch by rw [hch]]
          clear HG9 HD HK HR HB
          try simp only [List.getElem_toArray, List.getElem_cons_zero, List.getElem_cons_succ, Act.put, List.setIfInBounds_toArray, List.set_cons_zero, List.set_cons_succ]
          go_wp2_with fail
          try simp only [Exit.inBlock, Exit.then]
          exact bret rfl rfl w.heap.size rfl _ _ (unhide HV9) (hashF_length _) ⟨by first | rfl | rw [hch], unhide HB9⟩
end Go.Proofs.YtbclhieobhfdpaaDoor
