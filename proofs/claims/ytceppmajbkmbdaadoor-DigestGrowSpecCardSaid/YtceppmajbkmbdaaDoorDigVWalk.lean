/- Contracts over the digest's program: the closure walk of Grew. -/
import Derived.Test.YtceppmajbkmbdaaDoorDigVer
namespace Go.Proofs.YtceppmajbkmbdaaDoor
set_option linter.unusedSimpArgs false
set_option linter.unusedVariables false
open Go.RowKit

theorem GK.mono {base base' P : Nat} {w w' : World} (h : GK base P w w') (hb : base' ≤ base) : GK base' P w w' := ⟨h.os, h.tape, h.output, h.size, fun k hk hp => h.block k (by omega) hp⟩
/-- a later world: of the older blocks only one may differ -/
abbrev GW (P : Nat) (w w' : World) : Prop := GK w.heap.size P w w'
theorem GW.then {P : Nat} {w w' w'' : World} (h : GW P w w') (h' : GW P w' w'') : GW P w w'' := GK.trans h (GK.mono h' h.size)
theorem GW.of {P : Nat} {w w' : World} (h : Below w.heap.size w w') : GW P w w' := GK.below (Nat.le_refl _) h
theorem GW.at_ {P : Nat} {w w' : World} (h : GW P w w') {b : Nat} {t : TypeId} {l : List Int} (ho : ByAt w b t l) (hp : b ≠ P) : ByAt w' b t l := GK.byAt h ho (lt_of_block ho) hp
theorem GW.fn {P : Nat} {w w' : World} (h : GW P w w') {b o : Nat} {v : Value} (ho : w.cell? ⟨b, o, none⟩ = some v) (hp : b ≠ P) : w'.cell? ⟨b, o, none⟩ = some v := GK.cell h ho (lt_of_cell ho) hp
theorem GW.tab {P : Nat} {w w' : World} (h : GW P w w') (hT : DTab w) (hp : gTop ≤ P) : DTab w' := GK.tab h hT hT.top hp
theorem GW.stored {P N : Nat} {w w' w0 : World} (h : GW P w0 w) (h0 : w0.heap.size ≤ N) (hg : w.grownBy w' (some N)) : GW P w0 w' := GK.trans h (GK.grown h.size hg (fun k hk => by injection hk with hk; exact .inl (by omega)))
abbrev NxVal (P : Nat) : Value := .func (Fn.func 61) #[] #[.pointer (some ⟨P, 0, none⟩)]
abbrev VwVal (b N K H : Nat) : Value := .func (Fn.func 62) #[] #[.pointer (some ⟨b, 0, none⟩), .pointer (some ⟨N, 0, none⟩), .pointer (some ⟨K, 0, none⟩), .pointer (some ⟨H, 0, none⟩)]
/-- what a call of the closure finds -/
structure VPre (B P b N K H : Nat) (w : World) (bf : List Int) (n m : Nat) (whole : Bool) (p : List (List Int)) : Prop where
  n1 : 1 ≤ n
  nm : n ≤ m
  m40 : m ≤ 1099511627776
  len : gLen n m whole ≤ p.length
  pl : p.length ≤ 100000000
  base_ : B ≤ w.heap.size
  top : gTop ≤ P
  lows : P < B ∧ b ≠ P ∧ N ≠ P ∧ K ≠ P ∧ H ≠ P
  gb : Dg bf
  bx : ByAt w b 24 bf
  fn : w.cell? ⟨N, 0, none⟩ = some (NxVal P)
  fk : w.cell? ⟨K, 0, none⟩ = some (VwVal b N K H)
  hat : HAt w H
  tab : DTab w
  qb : QB B P w p
theorem QB.low {B P : Nat} {w : World} {p : List (List Int)} (h : QB B P w p) : ∀ d ∈ p, Dg d := by
  obtain ⟨A, c, _, _, h3, _⟩ := h.ex
  exact h3.dg
theorem VPre.after {B P b N K H : Nat} {w w' : World} {bf : List Int} {n m n' m' : Nat} {whole whole' : Bool} {p : List (List Int)} (h : VPre B P b N K H w bf n m whole p) (hb : Below w.heap.size w w') (h1 : 1 ≤ n') (h2 : n' ≤ m') (h3 : m' ≤ 1099511627776) (h4 : gLen n' m' whole' ≤ p.length) : VPre B P b N K H w' bf n' m' whole' p :=
  ⟨h1, h2, h3, h4, h.pl, Nat.le_trans h.base_ hb.size, h.top, h.lows, h.gb, h.bx.keep hb, cellKeep h.fn hb, cellKeep h.fk hb, h.hat.keep hb, h.tab.keep hb, h.qb.later hb⟩
abbrev VwIs (B P b N K H : Nat) (w : World) (n m : Nat) (whole : Bool) (X Y : List Int) (R : List (List Int)) : Prop :=
  Calls Tryd.prog 62 #[.int .i64 (n : Int), .int .i64 (m : Int), .bool whole, .pointer (some ⟨b, 0, none⟩), .pointer (some ⟨N, 0, none⟩), .pointer (some ⟨K, 0, none⟩), .pointer (some ⟨H, 0, none⟩)] w
    fun x w' => x = .returned (.tuple #[dv X, dv Y]) ∧ GW P w w' ∧ QB B P w' R
structure RS (N10 N : Nat) (x : List Int) (f : Value) (V : World) : Prop where
  at_ : ByAt V N10 24 x
  fn : V.cell? ⟨N, 0, none⟩ = some f

theorem vwalk_whole (B P b N K H : Nat) (w : World) (bf : List Int) (n : Nat) (p : List (List Int)) (h : VPre B P b N K H w bf n n true p) : VwIs B P b N K H w n n true bf bf p := by
  refine (walk_same n bf h.gb w b N K H h.bx).mono ?_
  rintro x w' ⟨rfl, hb⟩
  exact ⟨rfl, GW.of hb, h.qb.later hb⟩

set_option maxRecDepth 100000 in
set_option maxHeartbeats 4000000 in
theorem vwalk_leaf (B P b N K H : Nat) (w : World) (bf : List Int) (n : Nat) (d : List Int) (r : List (List Int)) (h : VPre B P b N K H w bf n n false (d :: r)) : VwIs B P b N K H w n n false d d r := by
  have HP := hide h
  have hgd := h.qb.low d List.mem_cons_self
  have HGD := hide hgd
  obtain ⟨cd, hcd⟩ : ∃ cs, cs = (d.map (Value.int .u8)).toArray := ⟨_, rfl⟩
  have hscd : cd.size = 32 := by rw [hcd]; simpa using hgd.len
  have HCD := hide hcd
  clear hcd
  clear h hgd
  go_enter Tryd.func62, Tryd.ntmps62
  go_upto_region 1 with fail
  generalize hX1 : w.alloc _ = W1
  have hB1 : Below w.heap.size w W1 := hX1 ▸ (Below.refl _ _).alloc (Nat.le_refl _) _
  have ho1 : ByAt W1 w.heap.size 24 zeros := newBy w W1 (by rw [← hX1]; rfl)
  have hz1 : W1.heap.size = w.heap.size + 1 := by rw [← hX1]; show (w.heap.push _).size = _; rw [Array.size_push]
  generalize hX2 : W1.alloc _ = W2
  have hB2 : Below W1.heap.size W1 W2 := hX2 ▸ (Below.refl _ _).alloc (Nat.le_refl _) _
  have ho2 : ByAt W2 W1.heap.size 24 zeros := newBy W1 W2 (by rw [← hX2]; rfl)
  rw [hz1] at ho2
  have HB2 := hide (thenB hB1 hB2)
  have HO1 := hide (ho1.keep hB2)
  have HO2 := hide ho2
  have HPW : Hid (P < w.heap.size) := Nat.lt_of_lt_of_le (unhide HP).lows.1 (unhide HP).base_
  have hcN := cellKeep (unhide HP).fn (unhide HB2)
  have hcK := cellKeep (unhide HP).fk (unhide HB2)
  clear hX1 hX2 hB1 hB2 ho1 ho2 hz1
  go_wp2_with fail
  refine (next_any B P W2 d r ((unhide HP).qb.later (unhide HB2)) (Nat.le_trans (unhide HP).base_ (unhide HB2).size) (unhide HP).lows.1 (by have := (unhide HP).pl; simp at this; omega)).mono ?_; rintro x W3 ⟨rfl, hg3, hq3⟩
  rw [show dv d = .agg cd by rw [unhide HCD]]
  have HG3 := hide (GW.then (GW.of (unhide HB2)) hg3)
  have HQ3 := hide hq3
  have HO3 := hide (GW.at_ hg3 (unhide HO1) (by have := unhide HPW; omega))
  have HO4 := hide (GW.at_ hg3 (unhide HO2) (by have := unhide HPW; omega))
  clear hg3 hq3 HO1 HO2 hcN hcK HB2
  dsimp only
  rename_i KK hK
  refine hK _ _ ?_
  clear hK KK
  refine wpList_plain rfl fun Kt hKt => ?_
  go_simp
  refine hKt _ _ ?_
  clear hKt Kt
  generalize hX4 : W3.alloc _ = W4
  have hB4 : Below W3.heap.size W3 W4 := hX4 ▸ (Below.refl _ _).alloc (Nat.le_refl _) _
  have HN4 := hide (newBy W3 W4 (by rw [← hX4]; rfl))
  have HG4 := hide (GW.then (unhide HG3) (GW.of hB4))
  have HQ4 := hide ((unhide HQ3).later hB4)
  have HO5 := hide ((unhide HO3).keep hB4)
  have HO6 := hide ((unhide HO4).keep hB4)
  have HZ : Hid (w.heap.size + 1 < W3.heap.size) := lt_of_block (unhide HO4)
  clear hX4 hB4 HG3 HQ3 HO3 HO4
  refine wpList_bstore rfl 24 (.tmp 12) (.tmp 22) rfl W3.heap.size rfl d (show Value.agg cd = _ by rw [unhide HCD]) 32 info32 (unhide HGD).len _ zeros (unhide HN4) rfl ?_
  intro W5 HW5 HG5
  have HG6 := hide (GW.stored (unhide HG4) (by have := unhide HZ; omega) (unhide HG5))
  have HQ6 := hide ((unhide HQ4).grown (unhide HG5) (Nat.le_trans (unhide HP).base_ (unhide HG4).size) (by have := unhide HZ; have := (unhide HP).base_; omega) (unhide HP).lows.1)
  have HO7 := hide ((unhide HO5).grown (unhide HG5) (by have := unhide HZ; omega))
  have HO8 := hide ((unhide HO6).grown (unhide HG5) (by have := unhide HZ; omega))
  obtain ⟨M, hM⟩ : ∃ M, M = W3.heap.size := ⟨_, rfl⟩
  rw [← hM] at HW5 HZ ⊢
  clear hM HG5 HG4 HQ4 HO5 HO6 HN4
  go_wp2_with fail
  obtain ⟨W, hW⟩ : ∃ W, W = W5.drewN 1 := ⟨_, rfl⟩
  have HW : Hid (W = W5.drewN 1) := hW
  have hBW := below_named HW
  have hSW : ByAt W M 24 d := (unhide HW5).keep hBW
  have hgw := GW.then (unhide HG6) (GW.of hBW)
  have hqw := (unhide HQ6).later hBW
  have h10 := (unhide HO7).keep hBW
  have h11 := (unhide HO8).keep hBW
  have HGWW := hide hgw; have HQW := hide hqw; have H10 := hide h10; have H11 := hide h11
  clear hW hBW hgw hqw h10 h11
  refine held (S := fun V => ByAt V M 24 d) W HW (by kernel_rfl) ?_
  refine wpAnyH_take (i := 0) (v := .agg cd) rfl (by kernel_rfl) (by kernel_rfl) (by kernel_rfl) (fun _ _ _ h => h) (by rw [unhide HCD]; exact yieldsIf_load_mid (by kernel_rfl) 24 (.tmp 12) rfl M 0 rfl (d.map (Value.int .u8)) _ (fun W hS => ByAt.range hS) Tryd.underlying24 rfl (by rw [List.length_map, (unhide HGD).len]; exact info32)) (by assumption) ?_
  try simp only [List.getElem_toArray, List.getElem_cons_zero, List.getElem_cons_succ, Act.put, List.setIfInBounds_toArray, List.set_cons_zero, List.set_cons_succ]
  refine wpAnyH_take (i := 1) (v := .agg cd) rfl (by kernel_rfl) (by kernel_rfl) (by kernel_rfl) (fun _ _ _ h => h) (by rw [unhide HCD]; exact yieldsIf_load_mid (by kernel_rfl) 24 (.tmp 12) rfl M 0 rfl (d.map (Value.int .u8)) _ (fun W hS => ByAt.range hS) Tryd.underlying24 rfl (by rw [List.length_map, (unhide HGD).len]; exact info32)) (by assumption) ?_
  try simp only [List.getElem_toArray, List.getElem_cons_zero, List.getElem_cons_succ, Act.put, List.setIfInBounds_toArray, List.set_cons_zero, List.set_cons_succ]
  refine wpAnyH_chainOf [2, 3] _ _ _ (by kernel_rfl) (by kernel_rfl) ?_
  simp only [List.filterMap_cons, List.filterMap_nil, List.getElem?_toArray, List.getElem?_cons_zero, List.getElem?_cons_succ]
  refine wpChain_bstore rfl 24 (.tmp 10) (.tmp 23) rfl w.heap.size rfl d (show Value.agg cd = _ by rw [unhide HCD]) 32 info32 (unhide HGD).len _ zeros (unhide H10) rfl ?_
  intro Z1 HZ1 HGz1
  have hs1 := hSW.grown (unhide HGz1) (by have := unhide HZ; omega)
  refine ⟨hs1, ?_⟩
  refine wpChain_bstore rfl 24 (.tmp 11) (.tmp 24) rfl (w.heap.size + 1) rfl d (show Value.agg cd = _ by rw [unhide HCD]) 32 info32 (unhide HGD).len _ zeros ((unhide H11).grown (unhide HGz1) (by omega)) rfl ?_
  intro Z2 HZ2 HGz2
  have hs2 := hs1.grown (unhide HGz2) (by have := unhide HZ; omega)
  refine ⟨hs2, wpChain_nil ?_⟩
  have HE1 := hide ((unhide HZ1).grown (unhide HGz2) (by omega))
  have HE2 := hide (GW.stored (GW.stored (unhide HGWW) (Nat.le_refl _) (unhide HGz1)) (Nat.le_succ _) (unhide HGz2))
  have HE3 := hide (((unhide HQW).grown (unhide HGz1) (Nat.le_trans (unhide HP).base_ (unhide HGWW).size) (unhide HP).base_ (unhide HP).lows.1).grown (unhide HGz2) (Nat.le_trans (unhide HP).base_ (GW.stored (unhide HGWW) (Nat.le_refl _) (unhide HGz1)).size) (Nat.le_succ_of_le (unhide HP).base_) (unhide HP).lows.1)
  clear hSW hs1 hs2
  go_wp2_with fail
  try simp only [Exit.inBlock, Exit.then]
  exact bret22 rfl rfl w.heap.size (w.heap.size + 1) rfl rfl _ _ _ _ (unhide HE1) (unhide HZ2) (unhide HGD).len (unhide HGD).len ⟨rfl, unhide HE2, unhide HE3⟩
set_option maxRecDepth 100000 in
set_option maxHeartbeats 4000000 in
theorem vwalk_left (B P b N K H : Nat) (w : World) (bf : List Int) (n m : Nat) (whole : Bool) (p : List (List Int)) (x y z : List Int) (r : List (List Int)) (h : VPre B P b N K H w bf n m whole p) (hn : n < m) (ha : n ≤ halfN m) (e : verP bf n (halfN m) whole p = (x, y, z :: r))
    (I : ∀ (m' : Nat), m' < m → ∀ (w' : World) (n' : Nat) (whole' : Bool) (X Y : List Int) (R : List (List Int)), verP bf n' m' whole' p = (X, Y, R) → VPre B P b N K H w' bf n' m' whole' p → VwIs B P b N K H w' n' m' whole' X Y R) : VwIs B P b N K H w n m whole x (nodeP y z) r := by
  obtain ⟨k, hk⟩ : ∃ k, k = halfN m := ⟨_, rfl⟩
  have hkn := halfN_lt (n := m) (by have := h.n1; omega)
  have hk0 := halfN_pos m
  have h1 := h.n1
  have h40 := h.m40
  rw [← hk] at ha e hkn hk0
  have hlen := h.len
  rw [gLen_left whole h1 hn (hk ▸ ha), ← hk] at hlen
  have hv := verP_len bf h.gb k n whole p h1 ha (by omega) h.qb.low
  obtain ⟨x', y', r', e', hx, hy, hr, hrl⟩ := hv
  rw [e] at e'
  injection e' with ex e'
  injection e' with ey er
  subst ex ey er
  have hgz : Dg z := hr z List.mem_cons_self
  have hgr : r.length ≤ 100000000 := by have := h.pl; simp at hrl; omega
  obtain ⟨cx, hcx⟩ : ∃ cs, cs = (x.map (Value.int .u8)).toArray := ⟨_, rfl⟩
  have hscx : cx.size = 32 := by rw [hcx]; simpa using hx.len
  have HCX := hide hcx
  clear hcx
  obtain ⟨cy, hcy⟩ : ∃ cs, cs = (y.map (Value.int .u8)).toArray := ⟨_, rfl⟩
  have hscy : cy.size = 32 := by rw [hcy]; simpa using hy.len
  have HCY := hide hcy
  clear hcy
  obtain ⟨cz, hcz⟩ : ∃ cs, cs = (z.map (Value.int .u8)).toArray := ⟨_, rfl⟩
  have hscz : cz.size = 32 := by rw [hcz]; simpa using hgz.len
  have HCZ := hide hcz
  clear hcz
  have HREC : Hid (∀ V, Below w.heap.size w V → Calls Tryd.prog 62 #[.int .i64 (n : Int), .int .i64 (k : Int), .bool whole, .pointer (some ⟨b, 0, none⟩), .pointer (some ⟨N, 0, none⟩), .pointer (some ⟨K, 0, none⟩), .pointer (some ⟨H, 0, none⟩)] V fun x0 w' => x0 = .returned (.tuple #[.agg cx, .agg cy]) ∧ GW P V w' ∧ QB B P w' (z :: r)) := fun V hV => by
    have := I k (by omega) V n whole x y (z :: r) e (h.after hV (by omega) (by omega) (by omega) (by omega))
    unfold VwIs at this
    rw [show dv x = .agg cx by rw [unhide HCX], show dv y = .agg cy by rw [unhide HCY]] at this
    exact this
  have HP := hide h
  have HGX := hide hx; have HGY := hide hy; have HGZ := hide hgz
  have HGR : Hid (r.length ≤ 100000000) := hgr
  have n0 : ¬ (n : Int) = (m : Int) := by omega
  have a1 : (n : Int) ≤ (k : Int) := by omega
  have HK : Hid (k = halfN m ∧ 2 ≤ m ∧ m ≤ 1099511627776) := ⟨hk, by omega, h40⟩
  clear h I hn ha e hk hkn hk0 h1 h40 hlen hx hy hr hrl hgz hgr
  obtain ⟨u, hu⟩ : ∃ u, u = nodeP y z := ⟨_, rfl⟩
  have hgu : Dg u := hu ▸ dg_hash _
  rw [← hu]
  obtain ⟨cu, hcu⟩ : ∃ cs, cs = (u.map (Value.int .u8)).toArray := ⟨_, rfl⟩
  have hscu : cu.size = 32 := by rw [hcu]; simpa using hgu.len
  have HCU := hide hcu
  clear hcu
  have HU := hide hu; have HGU := hide hgu
  clear hu hgu
  go_enter Tryd.func62, Tryd.ntmps62
  go_upto_region 1 with fail
  generalize hX1 : w.alloc _ = W1
  have hB1 : Below w.heap.size w W1 := hX1 ▸ (Below.refl _ _).alloc (Nat.le_refl _) _
  have ho1 : ByAt W1 w.heap.size 24 zeros := newBy w W1 (by rw [← hX1]; rfl)
  have hz1 : W1.heap.size = w.heap.size + 1 := by rw [← hX1]; show (w.heap.push _).size = _; rw [Array.size_push]
  generalize hX2 : W1.alloc _ = W2
  have hB2 : Below W1.heap.size W1 W2 := hX2 ▸ (Below.refl _ _).alloc (Nat.le_refl _) _
  have ho2 : ByAt W2 W1.heap.size 24 zeros := newBy W1 W2 (by rw [← hX2]; rfl)
  rw [hz1] at ho2
  have HB2 := hide (thenB hB1 hB2)
  have HO1 := hide (ho1.keep hB2)
  have HO2 := hide ho2
  have HPW : Hid (P < w.heap.size) := Nat.lt_of_lt_of_le (unhide HP).lows.1 (unhide HP).base_
  have hcN := cellKeep (unhide HP).fn (unhide HB2)
  have hcK := cellKeep (unhide HP).fk (unhide HB2)
  clear hX1 hX2 hB1 hB2 ho1 ho2 hz1
  go_wp2_with fail
  refine (split_any m (unhide HK).2.1 (unhide HK).2.2 W2).mono ?_; rintro x0 W3 ⟨rfl, rfl⟩
  rw [← (unhide HK).1]
  go_wp2_with fail
  refine ((unhide HREC) W3 (unhide HB2)).mono ?_; rintro x0 W4 ⟨rfl, hg4, hq4⟩
  have HG4 := hide (GW.then (GW.of (unhide HB2)) hg4)
  have HQ4 := hide hq4
  have HO3 := hide (GW.at_ hg4 (unhide HO1) (by have := unhide HPW; omega))
  have HO4 := hide (GW.at_ hg4 (unhide HO2) (by have := unhide HPW; omega))
  clear hg4 hq4 HO1 HO2 hcN hcK HB2 HREC
  dsimp only
  rename_i KK hK
  refine hK _ _ ?_
  clear hK KK
  refine wpList_plain rfl fun Kt hKt => ?_
  go_simp
  refine hKt _ _ ?_
  clear hKt Kt
  refine wpList_plain rfl fun Kt hKt => ?_
  go_simp
  refine hKt _ _ ?_
  clear hKt Kt
  refine wpList_plain rfl fun Kt hKt => ?_
  go_simp
  refine hKt _ _ ?_
  clear hKt Kt
  refine wpList_bstore rfl 24 (.tmp 10) (.tmp 36) rfl w.heap.size rfl x (show Value.agg cx = _ by rw [unhide HCX]) 32 info32 (unhide HGX).len _ zeros (unhide HO3) rfl ?_
  intro W5 HX5 HG5
  have HY5 := hide ((unhide HO4).grown (unhide HG5) (by omega))
  have HG6 := hide (GW.stored (unhide HG4) (Nat.le_refl _) (unhide HG5))
  have HQ6 := hide ((unhide HQ4).grown (unhide HG5) (Nat.le_trans (unhide HP).base_ (unhide HG4).size) (unhide HP).base_ (unhide HP).lows.1)
  clear HG5 HG4 HQ4 HO3 HO4
  refine wpList_bstore rfl 24 (.tmp 11) (.tmp 37) rfl (w.heap.size + 1) rfl y (show Value.agg cy = _ by rw [unhide HCY]) 32 info32 (unhide HGY).len _ zeros (unhide HY5) rfl ?_
  intro W7 HY7 HG7
  have HX7 := hide ((unhide HX5).grown (unhide HG7) (by omega))
  have HG8 := hide (GW.stored (unhide HG6) (Nat.le_succ _) (unhide HG7))
  have HQ8 := hide ((unhide HQ6).grown (unhide HG7) (Nat.le_trans (unhide HP).base_ (unhide HG6).size) (Nat.le_succ_of_le (unhide HP).base_) (unhide HP).lows.1)
  clear HG7 HG6 HQ6 HX5 HY5
  have hcN := GW.fn (unhide HG8) (unhide HP).fn (unhide HP).lows.2.2.1
  go_wp2_with fail
  obtain ⟨W, hW⟩ : ∃ W, W = W7.drewN 1 := ⟨_, rfl⟩
  have HW : Hid (W = W7.drewN 1) := hW
  have hBW := below_named HW
  have hSW : RS w.heap.size N x (NxVal P) W := ⟨(unhide HX7).keep hBW, cellKeep hcN hBW⟩
  have HGWW := hide (GW.then (unhide HG8) (GW.of hBW))
  have HQW := hide ((unhide HQ8).later hBW)
  have HYW := hide ((unhide HY7).keep hBW)
  have hfc := fun V (hV : RS w.heap.size N x (NxVal P) V) => hV.fn
  have HNP : Hid (N ≠ w.heap.size ∧ N ≠ w.heap.size + 1) := by have := lt_of_cell (unhide HP).fn; exact ⟨by simp at this; omega, by simp at this; omega⟩
  clear hW hBW HG8 HQ8 HX7 HY7 hcN
  refine held (S := RS w.heap.size N x (NxVal P)) W HW (by kernel_rfl) ?_
  refine wpAnyH_take (i := 0) (v := .agg cx) rfl (by kernel_rfl) (by kernel_rfl) (by kernel_rfl) (fun _ _ _ h => h) (by rw [unhide HCX]; exact yieldsIf_load_mid (by kernel_rfl) 24 (.tmp 10) rfl w.heap.size 0 rfl (x.map (Value.int .u8)) _ (fun W hS => hS.at_.range) Tryd.underlying24 rfl (by rw [List.length_map, (unhide HGX).len]; exact info32)) (by assumption) ?_
  try simp only [List.getElem_toArray, List.getElem_cons_zero, List.getElem_cons_succ, Act.put, List.setIfInBounds_toArray, List.set_cons_zero, List.set_cons_succ]
  refine wpAnyH_take (i := 2) (v := ?_) rfl (by kernel_rfl) (by kernel_rfl) (by kernel_rfl) (fun _ _ _ h => h) (Or.inl ⟨by kernel_rfl, ?_⟩) (by assumption) ?_
  rotate_left
  · intro Wt hSt
    go_simp
    try with_reducible rfl
  try simp only [List.getElem_toArray, List.getElem_cons_zero, List.getElem_cons_succ, Act.put, List.setIfInBounds_toArray, List.set_cons_zero, List.set_cons_succ]
  clear hfc
  refine wpAnyH_two 1 3 _ _ rfl rfl (by kernel_rfl) (by kernel_rfl) (by kernel_rfl) ?_ ?_
  · intro Kt hK
    refine wp_load_mid 24 (.tmp 11) rfl (w.heap.size + 1) 0 rfl (y.map (Value.int .u8)) _ (ByAt.range (unhide HYW)) Tryd.underlying24 rfl (by rw [List.length_map, (unhide HGY).len]; exact info32) ?_
    rw [show Value.agg (y.map (Value.int .u8)).toArray = .agg cy by rw [unhide HCY]]
    refine hK _ _ hSW ?_
    clear hK Kt
    try simp only [List.getElem_toArray, List.getElem_cons_zero, List.getElem_cons_succ, Act.put, List.setIfInBounds_toArray, List.set_cons_zero, List.set_cons_succ]
    refine wpAnyH_one 3 _ rfl (by kernel_rfl) (by kernel_rfl) ?_
    intro Kt hK
    go_simp
    refine (next_any B P W z r (unhide HQW) (Nat.le_trans (unhide HP).base_ (unhide HGWW).size) (unhide HP).lows.1 (unhide HGR)).mono ?_; rintro x0 V1 ⟨rfl, hg1, hq1⟩
    rw [show dv z = .agg cz by rw [unhide HCZ]]
    have hgw1 := GW.then (unhide HGWW) hg1
    have hs0 : RS w.heap.size N x (NxVal P) V1 := ⟨GW.at_ hg1 hSW.at_ (by have := unhide HPW; omega), GW.fn hg1 hSW.fn (unhide HP).lows.2.2.1⟩
    have hy1 := GW.at_ hg1 (unhide HYW) (by have := unhide HPW; omega)
    dsimp only
    refine hK _ _ hs0 ?_
    clear hK Kt
    try simp only [List.getElem_toArray, List.getElem_cons_zero, List.getElem_cons_succ, Act.put, List.setIfInBounds_toArray, List.set_cons_zero, List.set_cons_succ]
    refine wpAnyH_one 4 _ rfl (by kernel_rfl) (by kernel_rfl) ?_
    intro Kt hK
    go_simp
    have hnd := node_any V1 H y z (GW.at_ hgw1 (unhide HP).hat (unhide HP).lows.2.2.2.2) (unhide HGY) (unhide HGZ) (GW.tab hgw1 (unhide HP).tab (unhide HP).top)
    rw [← unhide HU, show dv y = .agg cy by rw [unhide HCY], show dv z = .agg cz by rw [unhide HCZ], show dv u = .agg cu by rw [unhide HCU]] at hnd
    refine hnd.mono ?_; rintro x0 V2 ⟨rfl, hb2⟩
    have hs3 : RS w.heap.size N x (NxVal P) V2 := ⟨hs0.at_.keep hb2, cellKeep hs0.fn hb2⟩
    have hgw2 := GW.then hgw1 (GW.of hb2)
    have hq2 := hq1.later hb2
    have hy2 := hy1.keep hb2
    dsimp only
    refine hK _ _ hs3 ?_
    clear hK Kt hnd
    try simp only [List.getElem_toArray, List.getElem_cons_zero, List.getElem_cons_succ, Act.put, List.setIfInBounds_toArray, List.set_cons_zero, List.set_cons_succ]
    refine wpAnyH_chainOf [5, 6] _ _ _ (by kernel_rfl) (by kernel_rfl) ?_
    simp only [List.filterMap_cons, List.filterMap_nil, List.getElem?_toArray, List.getElem?_cons_zero, List.getElem?_cons_succ]
    refine wpChain_bstore rfl 24 (.tmp 10) (.tmp 38) rfl w.heap.size rfl x (show Value.agg cx = _ by rw [unhide HCX]) 32 info32 (unhide HGX).len _ _ hs3.at_ (unhide HGX).len ?_
    intro Z1 HZ1 HGz1
    have hs1 := (⟨unhide HZ1, by rw [cell_block ((unhide HGz1).block N (lt_of_cell hs3.fn) (fun e => by injection e with e; exact (unhide HNP).1 e))]; exact hs3.fn⟩ : RS w.heap.size N x (NxVal P) Z1)
    refine ⟨hs1, ?_⟩
    refine wpChain_bstore rfl 24 (.tmp 11) (.tmp 42) rfl (w.heap.size + 1) rfl u (show Value.agg cu = _ by rw [unhide HCU]) 32 info32 (unhide HGU).len _ _ (hy2.grown (unhide HGz1) (by omega)) (unhide HGY).len ?_
    intro Z2 HZ2 HGz2
    have hs2 := (⟨(unhide HZ1).grown (unhide HGz2) (by omega), by rw [cell_block ((unhide HGz2).block N (lt_of_cell hs1.fn) (fun e => by injection e with e; exact (unhide HNP).2 e))]; exact hs1.fn⟩ : RS w.heap.size N x (NxVal P) Z2)
    refine ⟨hs2, wpChain_nil ?_⟩
    have HE1 := hide ((unhide HZ1).grown (unhide HGz2) (by omega))
    have HE2 := hide (GW.stored (GW.stored hgw2 (Nat.le_refl _) (unhide HGz1)) (Nat.le_succ _) (unhide HGz2))
    have HE3 := hide ((hq2.grown (unhide HGz1) (Nat.le_trans (unhide HP).base_ hgw2.size) (unhide HP).base_ (unhide HP).lows.1).grown (unhide HGz2) (Nat.le_trans (unhide HP).base_ (GW.stored hgw2 (Nat.le_refl _) (unhide HGz1)).size) (Nat.le_succ_of_le (unhide HP).base_) (unhide HP).lows.1)
    clear hs1 hs2
    go_wp2_with fail
    try simp only [Exit.inBlock, Exit.then]
    exact bret22 rfl rfl w.heap.size (w.heap.size + 1) rfl rfl _ _ _ _ (unhide HE1) (unhide HZ2) (unhide HGX).len (unhide HGU).len ⟨rfl, unhide HE2, unhide HE3⟩
  · intro Kt hK
    go_simp
    refine (next_any B P W z r (unhide HQW) (Nat.le_trans (unhide HP).base_ (unhide HGWW).size) (unhide HP).lows.1 (unhide HGR)).mono ?_; rintro x0 V1 ⟨rfl, hg1, hq1⟩
    rw [show dv z = .agg cz by rw [unhide HCZ]]
    have hgw1 := GW.then (unhide HGWW) hg1
    have hs0 : RS w.heap.size N x (NxVal P) V1 := ⟨GW.at_ hg1 hSW.at_ (by have := unhide HPW; omega), GW.fn hg1 hSW.fn (unhide HP).lows.2.2.1⟩
    have hy1 := GW.at_ hg1 (unhide HYW) (by have := unhide HPW; omega)
    dsimp only
    refine hK _ _ hs0 ?_
    clear hK Kt
    try simp only [List.getElem_toArray, List.getElem_cons_zero, List.getElem_cons_succ, Act.put, List.setIfInBounds_toArray, List.set_cons_zero, List.set_cons_succ]
    refine wpAnyH_one 1 _ rfl (by kernel_rfl) (by kernel_rfl) ?_
    intro Kt hK
    refine wp_load_mid 24 (.tmp 11) rfl (w.heap.size + 1) 0 rfl (y.map (Value.int .u8)) _ (ByAt.range hy1) Tryd.underlying24 rfl (by rw [List.length_map, (unhide HGY).len]; exact info32) ?_
    rw [show Value.agg (y.map (Value.int .u8)).toArray = .agg cy by rw [unhide HCY]]
    refine hK _ _ hs0 ?_
    clear hK Kt
    try simp only [List.getElem_toArray, List.getElem_cons_zero, List.getElem_cons_succ, Act.put, List.setIfInBounds_toArray, List.set_cons_zero, List.set_cons_succ]
    refine wpAnyH_one 4 _ rfl (by kernel_rfl) (by kernel_rfl) ?_
    intro Kt hK
    go_simp
    have hnd := node_any V1 H y z (GW.at_ hgw1 (unhide HP).hat (unhide HP).lows.2.2.2.2) (unhide HGY) (unhide HGZ) (GW.tab hgw1 (unhide HP).tab (unhide HP).top)
    rw [← unhide HU, show dv y = .agg cy by rw [unhide HCY], show dv z = .agg cz by rw [unhide HCZ], show dv u = .agg cu by rw [unhide HCU]] at hnd
    refine hnd.mono ?_; rintro x0 V2 ⟨rfl, hb2⟩
    have hs3 : RS w.heap.size N x (NxVal P) V2 := ⟨hs0.at_.keep hb2, cellKeep hs0.fn hb2⟩
    have hgw2 := GW.then hgw1 (GW.of hb2)
    have hq2 := hq1.later hb2
    have hy2 := hy1.keep hb2
    dsimp only
    refine hK _ _ hs3 ?_
    clear hK Kt hnd
    try simp only [List.getElem_toArray, List.getElem_cons_zero, List.getElem_cons_succ, Act.put, List.setIfInBounds_toArray, List.set_cons_zero, List.set_cons_succ]
    refine wpAnyH_chainOf [5, 6] _ _ _ (by kernel_rfl) (by kernel_rfl) ?_
    simp only [List.filterMap_cons, List.filterMap_nil, List.getElem?_toArray, List.getElem?_cons_zero, List.getElem?_cons_succ]
    refine wpChain_bstore rfl 24 (.tmp 10) (.tmp 38) rfl w.heap.size rfl x (show Value.agg cx = _ by rw [unhide HCX]) 32 info32 (unhide HGX).len _ _ hs3.at_ (unhide HGX).len ?_
    intro Z1 HZ1 HGz1
    have hs1 := (⟨unhide HZ1, by rw [cell_block ((unhide HGz1).block N (lt_of_cell hs3.fn) (fun e => by injection e with e; exact (unhide HNP).1 e))]; exact hs3.fn⟩ : RS w.heap.size N x (NxVal P) Z1)
    refine ⟨hs1, ?_⟩
    refine wpChain_bstore rfl 24 (.tmp 11) (.tmp 42) rfl (w.heap.size + 1) rfl u (show Value.agg cu = _ by rw [unhide HCU]) 32 info32 (unhide HGU).len _ _ (hy2.grown (unhide HGz1) (by omega)) (unhide HGY).len ?_
    intro Z2 HZ2 HGz2
    have hs2 := (⟨(unhide HZ1).grown (unhide HGz2) (by omega), by rw [cell_block ((unhide HGz2).block N (lt_of_cell hs1.fn) (fun e => by injection e with e; exact (unhide HNP).2 e))]; exact hs1.fn⟩ : RS w.heap.size N x (NxVal P) Z2)
    refine ⟨hs2, wpChain_nil ?_⟩
    have HE1 := hide ((unhide HZ1).grown (unhide HGz2) (by omega))
    have HE2 := hide (GW.stored (GW.stored hgw2 (Nat.le_refl _) (unhide HGz1)) (Nat.le_succ _) (unhide HGz2))
    have HE3 := hide ((hq2.grown (unhide HGz1) (Nat.le_trans (unhide HP).base_ hgw2.size) (unhide HP).base_ (unhide HP).lows.1).grown (unhide HGz2) (Nat.le_trans (unhide HP).base_ (GW.stored hgw2 (Nat.le_refl _) (unhide HGz1)).size) (Nat.le_succ_of_le (unhide HP).base_) (unhide HP).lows.1)
    clear hs1 hs2
    go_wp2_with fail
    try simp only [Exit.inBlock, Exit.then]
    exact bret22 rfl rfl w.heap.size (w.heap.size + 1) rfl rfl _ _ _ _ (unhide HE1) (unhide HZ2) (unhide HGX).len (unhide HGU).len ⟨rfl, unhide HE2, unhide HE3⟩
set_option maxRecDepth 100000 in
set_option maxHeartbeats 4000000 in
theorem vwalk_right (B P b N K H : Nat) (w : World) (bf : List Int) (n m : Nat) (whole : Bool) (p : List (List Int)) (x y z : List Int) (r : List (List Int)) (h : VPre B P b N K H w bf n m whole p) (hn : n < m) (ha : ¬ n ≤ halfN m) (e : verP bf (n - halfN m) (m - halfN m) false p = (x, y, z :: r))
    (I : ∀ (m' : Nat), m' < m → ∀ (w' : World) (n' : Nat) (whole' : Bool) (X Y : List Int) (R : List (List Int)), verP bf n' m' whole' p = (X, Y, R) → VPre B P b N K H w' bf n' m' whole' p → VwIs B P b N K H w' n' m' whole' X Y R) : VwIs B P b N K H w n m whole (nodeP z x) (nodeP z y) r := by
  obtain ⟨k, hk⟩ : ∃ k, k = halfN m := ⟨_, rfl⟩
  have hkn := halfN_lt (n := m) (by have := h.n1; omega)
  have hk0 := halfN_pos m
  have h1 := h.n1
  have h40 := h.m40
  rw [← hk] at ha e hkn hk0
  have hlen := h.len
  rw [gLen_right whole h1 hn (hk ▸ ha), ← hk] at hlen
  have hv := verP_len bf h.gb (m - k) (n - k) false p (by omega) (by omega) (by omega) h.qb.low
  obtain ⟨x', y', r', e', hx, hy, hr, hrl⟩ := hv
  rw [e] at e'
  injection e' with ex e'
  injection e' with ey er
  subst ex ey er
  have hgz : Dg z := hr z List.mem_cons_self
  have hgr : r.length ≤ 100000000 := by have := h.pl; simp at hrl; omega
  obtain ⟨nk, hnk⟩ : ∃ z, z = n - k := ⟨_, rfl⟩
  obtain ⟨mk, hmk⟩ : ∃ z, z = m - k := ⟨_, rfl⟩
  have wn : IntKind.i64.wrap ((n : Int) - (k : Int)) = (nk : Int) := (IntWalk.i64_in _ (by omega)).trans (by omega)
  have wm : IntKind.i64.wrap ((m : Int) - (k : Int)) = (mk : Int) := (IntWalk.i64_in _ (by omega)).trans (by omega)
  rw [← hnk, ← hmk] at e
  obtain ⟨cx, hcx⟩ : ∃ cs, cs = (x.map (Value.int .u8)).toArray := ⟨_, rfl⟩
  have hscx : cx.size = 32 := by rw [hcx]; simpa using hx.len
  have HCX := hide hcx
  clear hcx
  obtain ⟨cy, hcy⟩ : ∃ cs, cs = (y.map (Value.int .u8)).toArray := ⟨_, rfl⟩
  have hscy : cy.size = 32 := by rw [hcy]; simpa using hy.len
  have HCY := hide hcy
  clear hcy
  obtain ⟨cz, hcz⟩ : ∃ cs, cs = (z.map (Value.int .u8)).toArray := ⟨_, rfl⟩
  have hscz : cz.size = 32 := by rw [hcz]; simpa using hgz.len
  have HCZ := hide hcz
  clear hcz
  have HREC : Hid (∀ V, Below w.heap.size w V → Calls Tryd.prog 62 #[.int .i64 (nk : Int), .int .i64 (mk : Int), .bool false, .pointer (some ⟨b, 0, none⟩), .pointer (some ⟨N, 0, none⟩), .pointer (some ⟨K, 0, none⟩), .pointer (some ⟨H, 0, none⟩)] V fun x0 w' => x0 = .returned (.tuple #[.agg cx, .agg cy]) ∧ GW P V w' ∧ QB B P w' (z :: r)) := fun V hV => by
    have := I mk (by omega) V nk false x y (z :: r) e (h.after hV (by omega) (by omega) (by omega) (by rw [hnk, hmk]; omega))
    unfold VwIs at this
    rw [show dv x = .agg cx by rw [unhide HCX], show dv y = .agg cy by rw [unhide HCY]] at this
    exact this
  have HP := hide h
  have HGX := hide hx; have HGY := hide hy; have HGZ := hide hgz
  have HGR : Hid (r.length ≤ 100000000) := hgr
  have n0 : ¬ (n : Int) = (m : Int) := by omega
  have a1 : ¬ (n : Int) ≤ (k : Int) := by omega
  have HK : Hid (k = halfN m ∧ 2 ≤ m ∧ m ≤ 1099511627776) := ⟨hk, by omega, h40⟩
  clear h I hn ha e hk hkn hk0 h1 h40 hlen hx hy hr hrl hgz hgr hnk hmk
  obtain ⟨u, hu⟩ : ∃ u, u = nodeP z x := ⟨_, rfl⟩
  have hgu : Dg u := hu ▸ dg_hash _
  obtain ⟨v, hv⟩ : ∃ v, v = nodeP z y := ⟨_, rfl⟩
  have hgv : Dg v := hv ▸ dg_hash _
  rw [← hu, ← hv]
  obtain ⟨cu, hcu⟩ : ∃ cs, cs = (u.map (Value.int .u8)).toArray := ⟨_, rfl⟩
  have hscu : cu.size = 32 := by rw [hcu]; simpa using hgu.len
  have HCU := hide hcu
  clear hcu
  obtain ⟨cv, hcv⟩ : ∃ cs, cs = (v.map (Value.int .u8)).toArray := ⟨_, rfl⟩
  have hscv : cv.size = 32 := by rw [hcv]; simpa using hgv.len
  have HCV := hide hcv
  clear hcv
  have HU := hide hu; have HGU := hide hgu
  have HV := hide hv; have HGV := hide hgv
  clear hu hgu hv hgv
  go_enter Tryd.func62, Tryd.ntmps62
  go_upto_region 1 with fail
  generalize hX1 : w.alloc _ = W1
  have hB1 : Below w.heap.size w W1 := hX1 ▸ (Below.refl _ _).alloc (Nat.le_refl _) _
  have ho1 : ByAt W1 w.heap.size 24 zeros := newBy w W1 (by rw [← hX1]; rfl)
  have hz1 : W1.heap.size = w.heap.size + 1 := by rw [← hX1]; show (w.heap.push _).size = _; rw [Array.size_push]
  generalize hX2 : W1.alloc _ = W2
  have hB2 : Below W1.heap.size W1 W2 := hX2 ▸ (Below.refl _ _).alloc (Nat.le_refl _) _
  have ho2 : ByAt W2 W1.heap.size 24 zeros := newBy W1 W2 (by rw [← hX2]; rfl)
  rw [hz1] at ho2
  have HB2 := hide (thenB hB1 hB2)
  have HO1 := hide (ho1.keep hB2)
  have HO2 := hide ho2
  have HPW : Hid (P < w.heap.size) := Nat.lt_of_lt_of_le (unhide HP).lows.1 (unhide HP).base_
  have hcN := cellKeep (unhide HP).fn (unhide HB2)
  have hcK := cellKeep (unhide HP).fk (unhide HB2)
  clear hX1 hX2 hB1 hB2 ho1 ho2 hz1
  go_wp2_with fail
  refine (split_any m (unhide HK).2.1 (unhide HK).2.2 W2).mono ?_; rintro x0 W3 ⟨rfl, rfl⟩
  rw [← (unhide HK).1]
  go_wp2_with fail
  refine ((unhide HREC) W3 (unhide HB2)).mono ?_; rintro x0 W4 ⟨rfl, hg4, hq4⟩
  have HG4 := hide (GW.then (GW.of (unhide HB2)) hg4)
  have HQ4 := hide hq4
  have HO3 := hide (GW.at_ hg4 (unhide HO1) (by have := unhide HPW; omega))
  have HO4 := hide (GW.at_ hg4 (unhide HO2) (by have := unhide HPW; omega))
  clear hg4 hq4 HO1 HO2 hcN hcK HB2 HREC
  dsimp only
  rename_i KK hK
  refine hK _ _ ?_
  clear hK KK
  refine wpList_plain rfl fun Kt hKt => ?_
  go_simp
  refine hKt _ _ ?_
  clear hKt Kt
  refine wpList_plain rfl fun Kt hKt => ?_
  go_simp
  refine hKt _ _ ?_
  clear hKt Kt
  refine wpList_plain rfl fun Kt hKt => ?_
  go_simp
  refine hKt _ _ ?_
  clear hKt Kt
  refine wpList_bstore rfl 24 (.tmp 10) (.tmp 52) rfl w.heap.size rfl x (show Value.agg cx = _ by rw [unhide HCX]) 32 info32 (unhide HGX).len _ zeros (unhide HO3) rfl ?_
  intro W5 HX5 HG5
  have HY5 := hide ((unhide HO4).grown (unhide HG5) (by omega))
  have HG6 := hide (GW.stored (unhide HG4) (Nat.le_refl _) (unhide HG5))
  have HQ6 := hide ((unhide HQ4).grown (unhide HG5) (Nat.le_trans (unhide HP).base_ (unhide HG4).size) (unhide HP).base_ (unhide HP).lows.1)
  clear HG5 HG4 HQ4 HO3 HO4
  refine wpList_bstore rfl 24 (.tmp 11) (.tmp 53) rfl (w.heap.size + 1) rfl y (show Value.agg cy = _ by rw [unhide HCY]) 32 info32 (unhide HGY).len _ zeros (unhide HY5) rfl ?_
  intro W7 HY7 HG7
  have HX7 := hide ((unhide HX5).grown (unhide HG7) (by omega))
  have HG8 := hide (GW.stored (unhide HG6) (Nat.le_succ _) (unhide HG7))
  have HQ8 := hide ((unhide HQ6).grown (unhide HG7) (Nat.le_trans (unhide HP).base_ (unhide HG6).size) (Nat.le_succ_of_le (unhide HP).base_) (unhide HP).lows.1)
  clear HG7 HG6 HQ6 HX5 HY5
  have hcN := GW.fn (unhide HG8) (unhide HP).fn (unhide HP).lows.2.2.1
  go_wp2_with fail
  refine (next_any B P W7 z r (unhide HQ8) (Nat.le_trans (unhide HP).base_ (unhide HG8).size) (unhide HP).lows.1 (unhide HGR)).mono ?_; rintro x0 W8 ⟨rfl, hg8, hq8⟩
  rw [show dv z = .agg cz by rw [unhide HCZ]]
  have HG9 := hide (GW.then (unhide HG8) hg8)
  have HQ9 := hide hq8
  have HX9 := hide (GW.at_ hg8 (unhide HX7) (by have := unhide HPW; omega))
  have HY9 := hide (GW.at_ hg8 (unhide HY7) (by have := unhide HPW; omega))
  clear hg8 hq8 HG8 HQ8 HX7 HY7 hcN
  dsimp only
  rename_i KK hK
  refine hK _ _ ?_
  clear hK KK
  refine wpList_plain rfl fun Kt hKt => ?_
  go_simp
  refine hKt _ _ ?_
  clear hKt Kt
  generalize hX4 : W8.alloc _ = W9
  have hB4 : Below W8.heap.size W8 W9 := hX4 ▸ (Below.refl _ _).alloc (Nat.le_refl _) _
  have HN4 := hide (newBy W8 W9 (by rw [← hX4]; rfl))
  have HG10 := hide (GW.then (unhide HG9) (GW.of hB4))
  have HQ10 := hide ((unhide HQ9).later hB4)
  have HX10 := hide ((unhide HX9).keep hB4)
  have HY10 := hide ((unhide HY9).keep hB4)
  have HZ : Hid (w.heap.size + 1 < W8.heap.size) := lt_of_block (unhide HY9)
  clear hX4 hB4 HG9 HQ9 HX9 HY9
  refine wpList_bstore rfl 24 (.tmp 14) (.tmp 55) rfl W8.heap.size rfl z (show Value.agg cz = _ by rw [unhide HCZ]) 32 info32 (unhide HGZ).len _ zeros (unhide HN4) rfl ?_
  intro W11 HW11 HG5
  have HG12 := hide (GW.stored (unhide HG10) (by have := unhide HZ; omega) (unhide HG5))
  have HQ12 := hide ((unhide HQ10).grown (unhide HG5) (Nat.le_trans (unhide HP).base_ (unhide HG10).size) (by have := unhide HZ; have := (unhide HP).base_; omega) (unhide HP).lows.1)
  have HX12 := hide ((unhide HX10).grown (unhide HG5) (by have := unhide HZ; omega))
  have HY12 := hide ((unhide HY10).grown (unhide HG5) (by have := unhide HZ; omega))
  obtain ⟨M, hM⟩ : ∃ M, M = W8.heap.size := ⟨_, rfl⟩
  rw [← hM] at HW11 HZ ⊢
  clear hM HG5 HG10 HQ10 HX10 HY10 HN4
  go_wp2_with fail
  obtain ⟨W, hW⟩ : ∃ W, W = W11.drewN 1 := ⟨_, rfl⟩
  have HW : Hid (W = W11.drewN 1) := hW
  have hBW := below_named HW
  have hSW : ByAt W M 24 z := (unhide HW11).keep hBW
  have HGWW := hide (GW.then (unhide HG12) (GW.of hBW))
  have HQW := hide ((unhide HQ12).later hBW)
  have HXW := hide ((unhide HX12).keep hBW)
  have HYW := hide ((unhide HY12).keep hBW)
  clear hW hBW HG12 HQ12 HX12 HY12
  refine held (S := fun V => ByAt V M 24 z) W HW (by kernel_rfl) ?_
  refine wpAnyH_take (i := 0) (v := .agg cz) rfl (by kernel_rfl) (by kernel_rfl) (by kernel_rfl) (fun _ _ _ h => h) (by rw [unhide HCZ]; exact yieldsIf_load_mid (by kernel_rfl) 24 (.tmp 14) rfl M 0 rfl (z.map (Value.int .u8)) _ (fun W hS => ByAt.range hS) Tryd.underlying24 rfl (by rw [List.length_map, (unhide HGZ).len]; exact info32)) (by assumption) ?_
  try simp only [List.getElem_toArray, List.getElem_cons_zero, List.getElem_cons_succ, Act.put, List.setIfInBounds_toArray, List.set_cons_zero, List.set_cons_succ]
  refine wpAnyH_take (i := 3) (v := .agg cz) rfl (by kernel_rfl) (by kernel_rfl) (by kernel_rfl) (fun _ _ _ h => h) (by rw [unhide HCZ]; exact yieldsIf_load_mid (by kernel_rfl) 24 (.tmp 14) rfl M 0 rfl (z.map (Value.int .u8)) _ (fun W hS => ByAt.range hS) Tryd.underlying24 rfl (by rw [List.length_map, (unhide HGZ).len]; exact info32)) (by assumption) ?_
  try simp only [List.getElem_toArray, List.getElem_cons_zero, List.getElem_cons_succ, Act.put, List.setIfInBounds_toArray, List.set_cons_zero, List.set_cons_succ]
  refine wpAnyH_all (show Region.ready .any _ _ = [1, 4] by kernel_rfl) (by simp) fun xq hxq => ?_
  rcases (by simpa using hxq : xq = 1 ∨ xq = 4) with rfl | rfl
  · clear hxq
    refine wpOp_one 1 _ rfl (by kernel_rfl) fun Kt hK => ?_
    refine wp_load_mid 24 (.tmp 10) rfl w.heap.size 0 rfl (x.map (Value.int .u8)) _ (ByAt.range (unhide HXW)) Tryd.underlying24 rfl (by rw [List.length_map, (unhide HGX).len]; exact info32) ?_
    rw [show Value.agg (x.map (Value.int .u8)).toArray = .agg cx by rw [unhide HCX]]
    refine hK _ _ ⟨hSW, ?_⟩
    clear hK Kt
    try simp only [List.getElem_toArray, List.getElem_cons_zero, List.getElem_cons_succ, Act.put, List.setIfInBounds_toArray, List.set_cons_zero, List.set_cons_succ]
    refine wpAnyH_all (show Region.ready .any _ _ = [2, 4] by kernel_rfl) (by simp) fun xq hxq => ?_
    rcases (by simpa using hxq : xq = 2 ∨ xq = 4) with rfl | rfl
    · clear hxq
      refine wpOp_one 2 _ rfl (by kernel_rfl) fun Kt hK => ?_
      go_simp
      have hnd := node_any W H z x (GW.at_ (unhide HGWW) (unhide HP).hat (unhide HP).lows.2.2.2.2) (unhide HGZ) (unhide HGX) (GW.tab (unhide HGWW) (unhide HP).tab (unhide HP).top)
      rw [← unhide HU, show dv z = .agg cz by rw [unhide HCZ], show dv x = .agg cx by rw [unhide HCX], show dv u = .agg cu by rw [unhide HCU]] at hnd
      refine hnd.mono ?_; rintro x0 Y1 ⟨rfl, hb1⟩
      have hs1_ := ByAt.keep hSW hb1
      have hg1_ := GW.then (unhide HGWW) (GW.of hb1)
      have hq1_ := QB.later (unhide HQW) hb1
      have hx1_ := ByAt.keep (unhide HXW) hb1
      have hy1_ := ByAt.keep (unhide HYW) hb1
      dsimp only
      refine hK _ _ ⟨hs1_, ?_⟩
      clear hnd
      clear hK Kt
      try simp only [List.getElem_toArray, List.getElem_cons_zero, List.getElem_cons_succ, Act.put, List.setIfInBounds_toArray, List.set_cons_zero, List.set_cons_succ]
      refine wpAnyH_all (show Region.ready .any _ _ = [4] by kernel_rfl) (by simp) fun xq hxq => ?_
      obtain rfl : xq = 4 := by simpa using hxq
      clear hxq
      refine wpOp_one 4 _ rfl (by kernel_rfl) fun Kt hK => ?_
      refine wp_load_mid 24 (.tmp 11) rfl (w.heap.size + 1) 0 rfl (y.map (Value.int .u8)) _ (ByAt.range hy1_) Tryd.underlying24 rfl (by rw [List.length_map, (unhide HGY).len]; exact info32) ?_
      rw [show Value.agg (y.map (Value.int .u8)).toArray = .agg cy by rw [unhide HCY]]
      refine hK _ _ ⟨hs1_, ?_⟩
      clear hK Kt
      try simp only [List.getElem_toArray, List.getElem_cons_zero, List.getElem_cons_succ, Act.put, List.setIfInBounds_toArray, List.set_cons_zero, List.set_cons_succ]
      refine wpAnyH_one 5 _ rfl (by kernel_rfl) (by kernel_rfl) ?_
      intro Kt hK
      go_simp
      have hnd := node_any Y1 H z y (GW.at_ hg1_ (unhide HP).hat (unhide HP).lows.2.2.2.2) (unhide HGZ) (unhide HGY) (GW.tab hg1_ (unhide HP).tab (unhide HP).top)
      rw [← unhide HV, show dv z = .agg cz by rw [unhide HCZ], show dv y = .agg cy by rw [unhide HCY], show dv v = .agg cv by rw [unhide HCV]] at hnd
      refine hnd.mono ?_; rintro x0 Y2 ⟨rfl, hb2⟩
      have hs2_ := ByAt.keep hs1_ hb2
      have hg2_ := GW.then hg1_ (GW.of hb2)
      have hq2_ := QB.later hq1_ hb2
      have hx2_ := ByAt.keep hx1_ hb2
      have hy2_ := ByAt.keep hy1_ hb2
      dsimp only
      refine hK _ _ hs2_ ?_
      clear hnd
      clear hK Kt
      try simp only [List.getElem_toArray, List.getElem_cons_zero, List.getElem_cons_succ, Act.put, List.setIfInBounds_toArray, List.set_cons_zero, List.set_cons_succ]
      refine wpAnyH_chainOf [6, 7] _ _ _ (by kernel_rfl) (by kernel_rfl) ?_
      simp only [List.filterMap_cons, List.filterMap_nil, List.getElem?_toArray, List.getElem?_cons_zero, List.getElem?_cons_succ]
      refine wpChain_bstore rfl 24 (.tmp 10) (.tmp 58) rfl w.heap.size rfl u (show Value.agg cu = _ by rw [unhide HCU]) 32 info32 (unhide HGU).len _ _ hx2_ (unhide HGX).len ?_
      intro Z1 HZ1 HGz1
      have hs1 := ByAt.grown hs2_ (unhide HGz1) (by have := unhide HZ; omega)
      refine ⟨hs1, ?_⟩
      refine wpChain_bstore rfl 24 (.tmp 11) (.tmp 61) rfl (w.heap.size + 1) rfl v (show Value.agg cv = _ by rw [unhide HCV]) 32 info32 (unhide HGV).len _ _ (hy2_.grown (unhide HGz1) (by omega)) (unhide HGY).len ?_
      intro Z2 HZ2 HGz2
      have hs2 := hs1.grown (unhide HGz2) (by have := unhide HZ; omega)
      refine ⟨hs2, wpChain_nil ?_⟩
      have HE1 := hide ((unhide HZ1).grown (unhide HGz2) (by omega))
      have HE2 := hide (GW.stored (GW.stored hg2_ (Nat.le_refl _) (unhide HGz1)) (Nat.le_succ _) (unhide HGz2))
      have HE3 := hide ((hq2_.grown (unhide HGz1) (Nat.le_trans (unhide HP).base_ hg2_.size) (unhide HP).base_ (unhide HP).lows.1).grown (unhide HGz2) (Nat.le_trans (unhide HP).base_ (GW.stored hg2_ (Nat.le_refl _) (unhide HGz1)).size) (Nat.le_succ_of_le (unhide HP).base_) (unhide HP).lows.1)
      clear hs1 hs2
      go_wp2_with fail
      try simp only [Exit.inBlock, Exit.then]
      exact bret22 rfl rfl w.heap.size (w.heap.size + 1) rfl rfl _ _ _ _ (unhide HE1) (unhide HZ2) (unhide HGU).len (unhide HGV).len ⟨rfl, unhide HE2, unhide HE3⟩
    · clear hxq
      refine wpOp_one 4 _ rfl (by kernel_rfl) fun Kt hK => ?_
      refine wp_load_mid 24 (.tmp 11) rfl (w.heap.size + 1) 0 rfl (y.map (Value.int .u8)) _ (ByAt.range (unhide HYW)) Tryd.underlying24 rfl (by rw [List.length_map, (unhide HGY).len]; exact info32) ?_
      rw [show Value.agg (y.map (Value.int .u8)).toArray = .agg cy by rw [unhide HCY]]
      refine hK _ _ ⟨hSW, ?_⟩
      clear hK Kt
      try simp only [List.getElem_toArray, List.getElem_cons_zero, List.getElem_cons_succ, Act.put, List.setIfInBounds_toArray, List.set_cons_zero, List.set_cons_succ]
      refine wpAnyH_all (show Region.ready .any _ _ = [2] by kernel_rfl) (by simp) fun xq hxq => ?_
      obtain rfl : xq = 2 := by simpa using hxq
      clear hxq
      refine wpOp_one 2 _ rfl (by kernel_rfl) fun Kt hK => ?_
      go_simp
      have hnd := node_any W H z x (GW.at_ (unhide HGWW) (unhide HP).hat (unhide HP).lows.2.2.2.2) (unhide HGZ) (unhide HGX) (GW.tab (unhide HGWW) (unhide HP).tab (unhide HP).top)
      rw [← unhide HU, show dv z = .agg cz by rw [unhide HCZ], show dv x = .agg cx by rw [unhide HCX], show dv u = .agg cu by rw [unhide HCU]] at hnd
      refine hnd.mono ?_; rintro x0 Y3 ⟨rfl, hb3⟩
      have hs3_ := ByAt.keep hSW hb3
      have hg3_ := GW.then (unhide HGWW) (GW.of hb3)
      have hq3_ := QB.later (unhide HQW) hb3
      have hx3_ := ByAt.keep (unhide HXW) hb3
      have hy3_ := ByAt.keep (unhide HYW) hb3
      dsimp only
      refine hK _ _ ⟨hs3_, ?_⟩
      clear hnd
      clear hK Kt
      try simp only [List.getElem_toArray, List.getElem_cons_zero, List.getElem_cons_succ, Act.put, List.setIfInBounds_toArray, List.set_cons_zero, List.set_cons_succ]
      refine wpAnyH_one 5 _ rfl (by kernel_rfl) (by kernel_rfl) ?_
      intro Kt hK
      go_simp
      have hnd := node_any Y3 H z y (GW.at_ hg3_ (unhide HP).hat (unhide HP).lows.2.2.2.2) (unhide HGZ) (unhide HGY) (GW.tab hg3_ (unhide HP).tab (unhide HP).top)
      rw [← unhide HV, show dv z = .agg cz by rw [unhide HCZ], show dv y = .agg cy by rw [unhide HCY], show dv v = .agg cv by rw [unhide HCV]] at hnd
      refine hnd.mono ?_; rintro x0 Y4 ⟨rfl, hb4⟩
      have hs4_ := ByAt.keep hs3_ hb4
      have hg4_ := GW.then hg3_ (GW.of hb4)
      have hq4_ := QB.later hq3_ hb4
      have hx4_ := ByAt.keep hx3_ hb4
      have hy4_ := ByAt.keep hy3_ hb4
      dsimp only
      refine hK _ _ hs4_ ?_
      clear hnd
      clear hK Kt
      try simp only [List.getElem_toArray, List.getElem_cons_zero, List.getElem_cons_succ, Act.put, List.setIfInBounds_toArray, List.set_cons_zero, List.set_cons_succ]
      refine wpAnyH_chainOf [6, 7] _ _ _ (by kernel_rfl) (by kernel_rfl) ?_
      simp only [List.filterMap_cons, List.filterMap_nil, List.getElem?_toArray, List.getElem?_cons_zero, List.getElem?_cons_succ]
      refine wpChain_bstore rfl 24 (.tmp 10) (.tmp 58) rfl w.heap.size rfl u (show Value.agg cu = _ by rw [unhide HCU]) 32 info32 (unhide HGU).len _ _ hx4_ (unhide HGX).len ?_
      intro Z1 HZ1 HGz1
      have hs1 := ByAt.grown hs4_ (unhide HGz1) (by have := unhide HZ; omega)
      refine ⟨hs1, ?_⟩
      refine wpChain_bstore rfl 24 (.tmp 11) (.tmp 61) rfl (w.heap.size + 1) rfl v (show Value.agg cv = _ by rw [unhide HCV]) 32 info32 (unhide HGV).len _ _ (hy4_.grown (unhide HGz1) (by omega)) (unhide HGY).len ?_
      intro Z2 HZ2 HGz2
      have hs2 := hs1.grown (unhide HGz2) (by have := unhide HZ; omega)
      refine ⟨hs2, wpChain_nil ?_⟩
      have HE1 := hide ((unhide HZ1).grown (unhide HGz2) (by omega))
      have HE2 := hide (GW.stored (GW.stored hg4_ (Nat.le_refl _) (unhide HGz1)) (Nat.le_succ _) (unhide HGz2))
      have HE3 := hide ((hq4_.grown (unhide HGz1) (Nat.le_trans (unhide HP).base_ hg4_.size) (unhide HP).base_ (unhide HP).lows.1).grown (unhide HGz2) (Nat.le_trans (unhide HP).base_ (GW.stored hg4_ (Nat.le_refl _) (unhide HGz1)).size) (Nat.le_succ_of_le (unhide HP).base_) (unhide HP).lows.1)
      clear hs1 hs2
      go_wp2_with fail
      try simp only [Exit.inBlock, Exit.then]
      exact bret22 rfl rfl w.heap.size (w.heap.size + 1) rfl rfl _ _ _ _ (unhide HE1) (unhide HZ2) (unhide HGU).len (unhide HGV).len ⟨rfl, unhide HE2, unhide HE3⟩
  · clear hxq
    refine wpOp_one 4 _ rfl (by kernel_rfl) fun Kt hK => ?_
    refine wp_load_mid 24 (.tmp 11) rfl (w.heap.size + 1) 0 rfl (y.map (Value.int .u8)) _ (ByAt.range (unhide HYW)) Tryd.underlying24 rfl (by rw [List.length_map, (unhide HGY).len]; exact info32) ?_
    rw [show Value.agg (y.map (Value.int .u8)).toArray = .agg cy by rw [unhide HCY]]
    refine hK _ _ ⟨hSW, ?_⟩
    clear hK Kt
    try simp only [List.getElem_toArray, List.getElem_cons_zero, List.getElem_cons_succ, Act.put, List.setIfInBounds_toArray, List.set_cons_zero, List.set_cons_succ]
    refine wpAnyH_all (show Region.ready .any _ _ = [1] by kernel_rfl) (by simp) fun xq hxq => ?_
    obtain rfl : xq = 1 := by simpa using hxq
    clear hxq
    refine wpOp_one 1 _ rfl (by kernel_rfl) fun Kt hK => ?_
    refine wp_load_mid 24 (.tmp 10) rfl w.heap.size 0 rfl (x.map (Value.int .u8)) _ (ByAt.range (unhide HXW)) Tryd.underlying24 rfl (by rw [List.length_map, (unhide HGX).len]; exact info32) ?_
    rw [show Value.agg (x.map (Value.int .u8)).toArray = .agg cx by rw [unhide HCX]]
    refine hK _ _ ⟨hSW, ?_⟩
    clear hK Kt
    try simp only [List.getElem_toArray, List.getElem_cons_zero, List.getElem_cons_succ, Act.put, List.setIfInBounds_toArray, List.set_cons_zero, List.set_cons_succ]
    refine wpAnyH_all (show Region.ready .any _ _ = [2] by kernel_rfl) (by simp) fun xq hxq => ?_
    obtain rfl : xq = 2 := by simpa using hxq
    clear hxq
    refine wpOp_one 2 _ rfl (by kernel_rfl) fun Kt hK => ?_
    go_simp
    have hnd := node_any W H z x (GW.at_ (unhide HGWW) (unhide HP).hat (unhide HP).lows.2.2.2.2) (unhide HGZ) (unhide HGX) (GW.tab (unhide HGWW) (unhide HP).tab (unhide HP).top)
    rw [← unhide HU, show dv z = .agg cz by rw [unhide HCZ], show dv x = .agg cx by rw [unhide HCX], show dv u = .agg cu by rw [unhide HCU]] at hnd
    refine hnd.mono ?_; rintro x0 Y5 ⟨rfl, hb5⟩
    have hs5_ := ByAt.keep hSW hb5
    have hg5_ := GW.then (unhide HGWW) (GW.of hb5)
    have hq5_ := QB.later (unhide HQW) hb5
    have hx5_ := ByAt.keep (unhide HXW) hb5
    have hy5_ := ByAt.keep (unhide HYW) hb5
    dsimp only
    refine hK _ _ ⟨hs5_, ?_⟩
    clear hnd
    clear hK Kt
    try simp only [List.getElem_toArray, List.getElem_cons_zero, List.getElem_cons_succ, Act.put, List.setIfInBounds_toArray, List.set_cons_zero, List.set_cons_succ]
    refine wpAnyH_one 5 _ rfl (by kernel_rfl) (by kernel_rfl) ?_
    intro Kt hK
    go_simp
    have hnd := node_any Y5 H z y (GW.at_ hg5_ (unhide HP).hat (unhide HP).lows.2.2.2.2) (unhide HGZ) (unhide HGY) (GW.tab hg5_ (unhide HP).tab (unhide HP).top)
    rw [← unhide HV, show dv z = .agg cz by rw [unhide HCZ], show dv y = .agg cy by rw [unhide HCY], show dv v = .agg cv by rw [unhide HCV]] at hnd
    refine hnd.mono ?_; rintro x0 Y6 ⟨rfl, hb6⟩
    have hs6_ := ByAt.keep hs5_ hb6
    have hg6_ := GW.then hg5_ (GW.of hb6)
    have hq6_ := QB.later hq5_ hb6
    have hx6_ := ByAt.keep hx5_ hb6
    have hy6_ := ByAt.keep hy5_ hb6
    dsimp only
    refine hK _ _ hs6_ ?_
    clear hnd
    clear hK Kt
    try simp only [List.getElem_toArray, List.getElem_cons_zero, List.getElem_cons_succ, Act.put, List.setIfInBounds_toArray, List.set_cons_zero, List.set_cons_succ]
    refine wpAnyH_chainOf [6, 7] _ _ _ (by kernel_rfl) (by kernel_rfl) ?_
    simp only [List.filterMap_cons, List.filterMap_nil, List.getElem?_toArray, List.getElem?_cons_zero, List.getElem?_cons_succ]
    refine wpChain_bstore rfl 24 (.tmp 10) (.tmp 58) rfl w.heap.size rfl u (show Value.agg cu = _ by rw [unhide HCU]) 32 info32 (unhide HGU).len _ _ hx6_ (unhide HGX).len ?_
    intro Z1 HZ1 HGz1
    have hs1 := ByAt.grown hs6_ (unhide HGz1) (by have := unhide HZ; omega)
    refine ⟨hs1, ?_⟩
    refine wpChain_bstore rfl 24 (.tmp 11) (.tmp 61) rfl (w.heap.size + 1) rfl v (show Value.agg cv = _ by rw [unhide HCV]) 32 info32 (unhide HGV).len _ _ (hy6_.grown (unhide HGz1) (by omega)) (unhide HGY).len ?_
    intro Z2 HZ2 HGz2
    have hs2 := hs1.grown (unhide HGz2) (by have := unhide HZ; omega)
    refine ⟨hs2, wpChain_nil ?_⟩
    have HE1 := hide ((unhide HZ1).grown (unhide HGz2) (by omega))
    have HE2 := hide (GW.stored (GW.stored hg6_ (Nat.le_refl _) (unhide HGz1)) (Nat.le_succ _) (unhide HGz2))
    have HE3 := hide ((hq6_.grown (unhide HGz1) (Nat.le_trans (unhide HP).base_ hg6_.size) (unhide HP).base_ (unhide HP).lows.1).grown (unhide HGz2) (Nat.le_trans (unhide HP).base_ (GW.stored hg6_ (Nat.le_refl _) (unhide HGz1)).size) (Nat.le_succ_of_le (unhide HP).base_) (unhide HP).lows.1)
    clear hs1 hs2
    go_wp2_with fail
    try simp only [Exit.inBlock, Exit.then]
    exact bret22 rfl rfl w.heap.size (w.heap.size + 1) rfl rfl _ _ _ _ (unhide HE1) (unhide HZ2) (unhide HGU).len (unhide HGV).len ⟨rfl, unhide HE2, unhide HE3⟩
theorem vwalk_any (m : Nat) : ∀ (B P b N K H : Nat) (w : World) (bf : List Int) (n : Nat) (whole : Bool) (p : List (List Int)) (X Y : List Int) (R : List (List Int)), verP bf n m whole p = (X, Y, R) → VPre B P b N K H w bf n m whole p → VwIs B P b N K H w n m whole X Y R := by
  induction m using Nat.strongRecOn with
  | _ m IH =>
    intro B P b N K H w bf n whole p X Y R e h
    have I := fun (m' : Nat) (hm' : m' < m) (w' : World) (n' : Nat) (whole' : Bool) (X Y : List Int) (R : List (List Int)) (e : verP bf n' m' whole' p = (X, Y, R)) (h : VPre B P b N K H w' bf n' m' whole' p) => IH m' hm' B P b N K H w' bf n' whole' p X Y R e h
    have h1 := h.n1
    have hnm := h.nm
    have hlen := h.len
    by_cases hn : n = m
    · subst hn
      cases whole
      · rw [gLen_end] at hlen
        match p, hlen, h, e with
        | d :: r, _, h, e =>
          rw [verP_leaf] at e
          injection e with e1 e; injection e with e2 e3
          subst e1 e2 e3
          exact vwalk_leaf B P b N K H w bf n d r h
      · rw [verP_whole] at e
        injection e with e1 e; injection e with e2 e3
        subst e1 e2 e3
        exact vwalk_whole B P b N K H w bf n p h
    · have hk := halfN_lt (n := m) (by omega)
      have hk0 := halfN_pos m
      by_cases ha : n ≤ halfN m
      · rw [gLen_left whole h1 (by omega) ha] at hlen
        obtain ⟨x, y, r, e', _, _, _, hl⟩ := verP_len bf h.gb (halfN m) n whole p h1 ha (by omega) h.qb.low
        match r, hl, e' with
        | [], hl, _ => simp at hl; omega
        | z :: r, hl, e' =>
          rw [verP_left bf whole h1 (by omega) ha e'] at e
          injection e with e1 e; injection e with e2 e3
          subst e1 e2 e3
          exact vwalk_left B P b N K H w bf n m whole p x y z r h (by omega) ha e' I
      · rw [gLen_right whole h1 (by omega) ha] at hlen
        obtain ⟨x, y, r, e', _, _, _, hl⟩ := verP_len bf h.gb (m - halfN m) (n - halfN m) false p (by omega) (by omega) (by omega) h.qb.low
        match r, hl, e' with
        | [], hl, _ => simp at hl; omega
        | z :: r, hl, e' =>
          rw [verP_right bf whole h1 (by omega) ha e'] at e
          injection e with e1 e; injection e with e2 e3
          subst e1 e2 e3
          exact vwalk_right B P b N K H w bf n m whole p x y z r h (by omega) ha e' I
end Go.Proofs.YtceppmajbkmbdaaDoor
