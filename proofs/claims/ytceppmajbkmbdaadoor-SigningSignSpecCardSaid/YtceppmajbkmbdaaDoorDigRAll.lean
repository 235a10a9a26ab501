/- Contracts over the digest's reference: arrays of integers in memory; at, rol. Contracts over the digest's reference: turns. Contracts over the digest's reference: constants. The reference's round is that of the program: pure. The reference takes a block's bytes one by one: pure. The reference takes a padded text block by block: pure. The reference's padding: a contract. Contracts over the digest's reference: a round. The reference's hash: a contract. -/
import Derived.Test.YtceppmajbkmbdaaDoorDigSane
import Derived.Test.YtceppmajbkmbdaaDoorDigApp
import Derived.Test.YtceppmajbkmbdaaDoorDigTwo
namespace Go.Proofs.YtceppmajbkmbdaaDoor
set_option linter.unusedSimpArgs false
set_option linter.unusedVariables false
open Go.RowKit

/-- n integers of a kind -/
def kc (k : IntKind) (n : Nat) (f : Nat → Int) : List Value := (List.range n).map fun j => Value.int k (f j)
abbrev kv (k : IntKind) (n : Nat) (f : Nat → Int) : Value := .agg (kc k n f).toArray
def KAt (k : IntKind) (n : Nat) (w : World) (b : Nat) (t : TypeId) (f : Nat → Int) : Prop := w.heap[b]? = some (.cells (kc k n f).toArray t (0, 0))
theorem kc_length (k : IntKind) (n : Nat) (f : Nat → Int) : (kc k n f).length = n := by simp [kc]
theorem kc_get {k : IntKind} {n : Nat} {f : Nat → Int} {j : Nat} (h : j < n) : (kc k n f)[j]? = some (.int k (f j)) := by
  unfold kc
  rw [List.getElem?_map, List.getElem?_range h]
  rfl
theorem kc_congr {k : IntKind} {n : Nat} {f g : Nat → Int} (e : ∀ j, j < n → f j = g j) : kc k n f = kc k n g := by
  unfold kc
  exact List.map_congr_left fun j hj => by rw [e j (by simpa using hj)]
theorem kc_set {k : IntKind} {n : Nat} {f : Nat → Int} {j : Nat} (h : j < n) (v : Int) : (kc k n f).toArray.setIfInBounds j (.int k v) = (kc k n (upd f j v)).toArray := by
  rw [List.setIfInBounds_toArray]
  congr 1
  apply List.ext_getElem?
  intro i
  rw [List.getElem?_set, kc_length]
  by_cases hi : i < n
  · rw [kc_get hi]
    by_cases hij : j = i
    · subst hij; rw [if_pos rfl, if_pos h, kc_get h]; simp [upd]
    · rw [if_neg hij, kc_get hi]; simp [upd, Ne.symm hij]
  · have hji : ¬ j = i := fun e => hi (e ▸ h)
    rw [if_neg hji, List.getElem?_eq_none (by rw [kc_length]; omega), List.getElem?_eq_none (by rw [kc_length]; omega)]
section
variable {k : IntKind} {n : Nat} {w w' : World} {b : Nat} {t : TypeId} {f g : Nat → Int}
theorem KAt.lt (h : KAt k n w b t f) : b < w.heap.size := lt_of_block h
theorem KAt.cell (h : KAt k n w b t f) {j : Nat} (hj : j < n) : w.cell? ⟨b, j, none⟩ = some (.int k (f j)) := by
  unfold KAt at h
  simp only [World.cell?, h]
  rw [List.getElem?_toArray]
  exact kc_get hj
theorem KAt.free (h : KAt k n w b t f) (j : Nat) : w.frozen? ⟨b, j, none⟩ = false := by
  unfold KAt at h
  simp [World.frozen?, h]
theorem KAt.set (h : KAt k n w b t f) {j : Nat} (hj : j < n) (v : Int) : KAt k n (w.setCell ⟨b, j, none⟩ (.int k v)) b t (upd f j v) := by
  unfold KAt at h ⊢
  rw [box_put h, kc_set hj]
theorem KAt.fn (h : KAt k n w b t f) (e : ∀ j, j < n → f j = g j) : KAt k n w b t g := by
  unfold KAt at h ⊢
  rw [h, kc_congr e]
theorem KAt.keep (h : KAt k n w b t f) (hb : Below w.heap.size w w') : KAt k n w' b t f := (hb.block b h.lt).trans h
theorem KAt.grown {nb : Nat} (h : KAt k n w b t f) (hb : w.grownBy w' (some nb)) (hne : b ≠ nb) : KAt k n w' b t f := (hb.block b h.lt (fun e => by injection e with e; exact hne e)).trans h
theorem KAt.range (h : KAt k n w b t f) : w.rangeAt b 0 (kc k n f) := fun j v hv => by
  have hj : j < n := by have := (List.getElem?_eq_some_iff.1 hv).1; rwa [kc_length] at this
  rw [Nat.zero_add, h.cell hj, ← hv, kc_get hj]
theorem KAt.there (h : KAt k n w b t f) : w.there b 0 n := fun j hj => by
  rw [Nat.zero_add]
  exact ⟨by rw [h.cell hj]; rfl, h.free j⟩
theorem kc_one (k : IntKind) (n : Nat) (f : Nat → Int) : ((kc k n f).toArray).all (·.oneCell') = true := all_oneCell_toArray fun v hv => by
  obtain ⟨x, _, rfl⟩ := List.mem_map.1 hv; rfl
theorem kset_cells {k : IntKind} {g : Nat → Int} {b : Nat} {t : TypeId} : ∀ (m : Nat) (w : World) (cs0 : List Value) (i : Nat), w.heap[b]? = some (.cells cs0.toArray t (0, 0)) → i + m = cs0.length →
    (w.setCells b i ((List.range' i m).map fun j => Value.int k (g j))).heap[b]? = some (.cells (cs0.take i ++ (List.range' i m).map fun j => Value.int k (g j)).toArray t (0, 0))
  | 0, w, cs0, i, h, hl => by
    have e : w.setCells b i ((List.range' i 0).map fun j => Value.int k (g j)) = w := rfl
    rw [e, h]
    simp [List.take_of_length_le (show cs0.length ≤ i by omega)]
  | m + 1, w, cs0, i, h, hl => by
    rw [List.range'_succ, List.map_cons]
    simp only [World.setCells]
    have h1 := box_put (i := i) (v := Value.int k (g i)) h
    rw [List.setIfInBounds_toArray] at h1
    have h2 := kset_cells (k := k) (g := g) m _ (cs0.set i (.int k (g i))) (i + 1) h1 (by simp; omega)
    rw [h2]
    have e1 : (cs0.set i (.int k (g i))).take (i + 1) = cs0.take i ++ [Value.int k (g i)] := by
      apply List.ext_getElem?
      intro j
      rw [List.getElem?_take, List.getElem?_set, List.getElem?_append, List.length_take, List.getElem?_take, Nat.min_eq_left (by omega)]
      by_cases hj : j < i
      · rw [if_pos (by omega), if_neg (by omega), if_pos hj, if_pos hj]
      · by_cases hj2 : j = i
        · subst hj2; simp; omega
        · rw [if_neg (by omega), if_neg hj, List.getElem?_eq_none (by simp; omega)]
    rw [e1, List.append_assoc, List.singleton_append]
theorem KAt.setAll (h : KAt k n w b t f) (g : Nat → Int) : KAt k n (w.setCells b 0 (kc k n g)) b t g := by
  have := kset_cells (k := k) (g := g) n w (kc k n f) 0 h (by rw [kc_length]; omega)
  unfold KAt kc
  rw [List.range_eq_range']
  simpa using this
end
def AnyW3 (_ : World) : Prop := True
theorem wpList_kstore {P : Program} {ops : Array Oper} {rest : List Oper} {o : Oper} {a : Act} {w : World} {Q : Exit → Act → World → Prop} (hgd : o.guard = none) (ty : TypeId) (x y : Operand) (ho : o.op = .store ty x y)
    (N : Nat) (hx : a.eval x = .pointer (some ⟨N, 0, none⟩)) (k : IntKind) (n : Nat) (g : Nat → Int) (hy : a.eval y = kv k n g) (hi : (P.info? ty).map (·.size) = some n) (T : TypeId) (f : Nat → Int) (h0 : KAt k n w N T f)
    (h : ∀ W, Hid (KAt k n W N T g) → Hid (w.grownBy W (some N)) → wpList P ops Q rest (a.put o.dst undef) W) : wpList P ops Q (o :: rest) a w :=
  wpList_store_mid hgd ty x y ho N 0 (kc k n g).toArray hx hy (by rw [List.size_toArray, kc_length]; exact h0.there) (by rw [List.size_toArray, kc_length]; exact hi) (kc_one k n g) (h _ (h0.setAll g) (grownSetCells N _ _ w))
theorem wpList_kload {P : Program} {ops : Array Oper} {rest : List Oper} {o : Oper} {a : Act} {w : World} {Q : Exit → Act → World → Prop} (hgd : o.guard = none) (ty : TypeId) (x : Operand) (ho : o.op = .load ty x)
    (N : Nat) (hx : a.eval x = .pointer (some ⟨N, 0, none⟩)) (d : TypeDesc) (hu : P.underlying ty = some d) (hd : d.isRow = true) (k : IntKind) (n : Nat) (hi : (P.info? ty).map (·.size) = some n) (T : TypeId) (f : Nat → Int) (h0 : KAt k n w N T f)
    (h : wpList P ops Q rest (a.put o.dst (kv k n f)) w) : wpList P ops Q (o :: rest) a w :=
  wpList_load_mid hgd ty x ho N 0 hx (kc k n f) d h0.range hu hd (by rw [kc_length]; exact hi) h
theorem kret {fn : Func} {R : Ending → World → Prop} {a : Act} {w : World} {t : Tmp} {ty : TypeId} (h : fn.results = #[.cell t ty]) (hd : a.defers = []) (N : Nat) (hp : a.tmps.getD t undef = .pointer (some ⟨N, 0, none⟩)) (k : IntKind) (n : Nat) (T : TypeId) (f : Nat → Int) (h0 : KAt k n w N T f) (d : TypeDesc) (hu : Tryd.prog.underlying ty = some d) (hr : d.isRow = true) (hi : (Tryd.prog.info? ty).map (·.size) = some n) (hR : R (.returned (kv k n f)) w) :
    bodyPost Tryd.prog fn R .ret a w :=
  bodyPost_ret (v := kv k n f) (results_cell_mid h _ _ N (kc k n f) _ hp h0.range hu hr (by rw [kc_length]; exact hi)) hd hR

set_option maxHeartbeats 1000000 in
theorem rat_any (x y : Int) (hx : -5 ≤ x ∧ x ≤ 1000) (hy : -5 ≤ y ∧ y ≤ 1000) (w : World) :
    Calls Tryd.prog 97 #[.int .i64 x, .int .i64 y] w fun e w' => e = .returned (.int .i64 (5 * (y % 5) + x % 5)) ∧ w' = w := by
  have w1 : IntKind.i64.wrap (y + 5) = y + 5 := IntWalk.i64_in _ (by omega)
  have w2 : IntKind.i64.wrap (x + 5) = x + 5 := IntWalk.i64_in _ (by omega)
  have t1 : (y + 5).tmod 5 = y % 5 := (Int.tmod_eq_emod_of_nonneg (by omega)).trans (by omega)
  have t2 : (x + 5).tmod 5 = x % 5 := (Int.tmod_eq_emod_of_nonneg (by omega)).trans (by omega)
  have w3 : IntKind.i64.wrap (5 * (y % 5)) = 5 * (y % 5) := IntWalk.i64_in _ (by omega)
  have w4 : IntKind.i64.wrap (5 * (y % 5) + x % 5) = 5 * (y % 5) + x % 5 := IntWalk.i64_in _ (by omega)
  clear hx hy
  go_enter Tryd.func97, Tryd.ntmps97
  go_wp2_with fail
  go_ret
  exact ⟨rfl, rfl⟩
/-- a rotation by a number below 64, 0 with them -/
def rolR (v : Int) (n : Nat) : Int := if n = 0 then v else rol v n
set_option maxHeartbeats 1000000 in
theorem rrol_any (v : Int) (n : Nat) (h : n < 64) (w : World) :
    Calls Tryd.prog 98 #[.int .u64 v, .int .i64 (n : Int)] w fun e w' => e = .returned (.int .u64 (rolR v n)) ∧ Below w.heap.size w w' := by
  have t1 : (n : Int).tmod 64 = (n : Int) := (Int.tmod_eq_emod_of_nonneg (by omega)).trans (by omega)
  have hn0 : (0 : Int) ≤ (n : Int) := Int.natCast_nonneg _
  have hn1 : (n : Int) < 64 := by omega
  have hw : IntKind.i64.wrap (64 - (n : Int)) = 64 - (n : Int) := IntWalk.i64_in _ (by omega)
  have hs1 := shift_shl .u64 .i64 v (n : Int) hn0 (by simp [IntKind.bits]; omega)
  by_cases h0 : n = 0
  · subst h0
    have e : rolR v 0 = v := if_pos rfl
    rw [e]
    clear h hn1 hn0 hw hs1 e
    go_enter Tryd.func98, Tryd.ntmps98
    go_wp2_with fail
    go_ret
    exact ⟨rfl, Below.refl _ _⟩
  · have hs2 := shift_shr .u64 .i64 v (64 - (n : Int)) (by omega) (by simp [IntKind.bits]; omega)
    have ht : (64 - (n : Int)).toNat = 64 - n := by omega
    rw [ht] at hs2
    have e : rolR v n = rol v n := if_neg h0
    rw [e]
    have i0 : ¬ (n : Int) = 0 := by omega
    clear ht h h0 e
    go_enter Tryd.func98, Tryd.ntmps98
    go_wp2_with fail
    obtain ⟨W, hW⟩ : ∃ W, W = w.drewN 1 := ⟨_, rfl⟩
    have HW : Hid (W = w.drewN 1) := hW
    have hSW : AnyW3 W := trivial
    clear hW
    refine held (S := AnyW3) W HW (by kernel_rfl) ?_
    refine wpAnyH_take (i := 0) (v := ?_) rfl (by kernel_rfl) (by kernel_rfl) (by kernel_rfl) (fun _ _ _ h => h) (Or.inl ⟨by kernel_rfl, ?_⟩) (by assumption) ?_
    rotate_left
    · intro Wt hSt
      go_simp
      try with_reducible rfl
    try simp only [List.getElem_toArray, List.getElem_cons_zero, List.getElem_cons_succ, Act.put, List.setIfInBounds_toArray, List.set_cons_zero, List.set_cons_succ]
    refine wpAnyH_take (i := 1) (v := ?_) rfl (by kernel_rfl) (by kernel_rfl) (by kernel_rfl) (fun _ _ _ h => h) (Or.inl ⟨by kernel_rfl, ?_⟩) (by assumption) ?_
    rotate_left
    · intro Wt hSt
      go_simp
      try with_reducible rfl
    try simp only [List.getElem_toArray, List.getElem_cons_zero, List.getElem_cons_succ, Act.put, List.setIfInBounds_toArray, List.set_cons_zero, List.set_cons_succ]
    refine wpAnyH_take (i := 2) (v := ?_) rfl (by kernel_rfl) (by kernel_rfl) (by kernel_rfl) (fun _ _ _ h => h) (Or.inl ⟨by kernel_rfl, ?_⟩) (by assumption) ?_
    rotate_left
    · intro Wt hSt
      go_simp
      try with_reducible rfl
    try simp only [List.getElem_toArray, List.getElem_cons_zero, List.getElem_cons_succ, Act.put, List.setIfInBounds_toArray, List.set_cons_zero, List.set_cons_succ]
    refine wpAnyH_take (i := 3) (v := ?_) rfl (by kernel_rfl) (by kernel_rfl) (by kernel_rfl) (fun _ _ _ h => h) (Or.inl ⟨by kernel_rfl, ?_⟩) (by assumption) ?_
    rotate_left
    · intro Wt hSt
      go_simp
      try with_reducible rfl
    try simp only [List.getElem_toArray, List.getElem_cons_zero, List.getElem_cons_succ, Act.put, List.setIfInBounds_toArray, List.set_cons_zero, List.set_cons_succ]
    refine wpAnyH_take (i := 4) (v := ?_) rfl (by kernel_rfl) (by kernel_rfl) (by kernel_rfl) (fun _ _ _ h => h) (Or.inl ⟨by kernel_rfl, ?_⟩) (by assumption) ?_
    rotate_left
    · intro Wt hSt
      go_simp
      try with_reducible rfl
    try simp only [List.getElem_toArray, List.getElem_cons_zero, List.getElem_cons_succ, Act.put, List.setIfInBounds_toArray, List.set_cons_zero, List.set_cons_succ]
    refine wpAnyH_take (i := 5) (v := ?_) rfl (by kernel_rfl) (by kernel_rfl) (by kernel_rfl) (fun _ _ _ h => h) (Or.inl ⟨by kernel_rfl, ?_⟩) (by assumption) ?_
    rotate_left
    · intro Wt hSt
      go_simp
      try with_reducible rfl
    try simp only [List.getElem_toArray, List.getElem_cons_zero, List.getElem_cons_succ, Act.put, List.setIfInBounds_toArray, List.set_cons_zero, List.set_cons_succ]
    refine wpAnyH_take (i := 6) (v := ?_) rfl (by kernel_rfl) (by kernel_rfl) (by kernel_rfl) (fun _ _ _ h => h) (Or.inl ⟨by kernel_rfl, ?_⟩) (by assumption) ?_
    rotate_left
    · intro Wt hSt
      go_simp
      try with_reducible rfl
    try simp only [List.getElem_toArray, List.getElem_cons_zero, List.getElem_cons_succ, Act.put, List.setIfInBounds_toArray, List.set_cons_zero, List.set_cons_succ]
    refine wpAnyH_take (i := 7) (v := ?_) rfl (by kernel_rfl) (by kernel_rfl) (by kernel_rfl) (fun _ _ _ h => h) (Or.inl ⟨by kernel_rfl, ?_⟩) (by assumption) ?_
    rotate_left
    · intro Wt hSt
      go_simp
      try with_reducible rfl
    try simp only [List.getElem_toArray, List.getElem_cons_zero, List.getElem_cons_succ, Act.put, List.setIfInBounds_toArray, List.set_cons_zero, List.set_cons_succ]
    refine wpAnyH_take (i := 8) (v := ?_) rfl (by kernel_rfl) (by kernel_rfl) (by kernel_rfl) (fun _ _ _ h => h) (Or.inl ⟨by kernel_rfl, ?_⟩) (by assumption) ?_
    rotate_left
    · intro Wt hSt
      go_simp
      try with_reducible rfl
    try simp only [List.getElem_toArray, List.getElem_cons_zero, List.getElem_cons_succ, Act.put, List.setIfInBounds_toArray, List.set_cons_zero, List.set_cons_succ]
    refine wpAnyH_chainOf [] _ _ _ (by kernel_rfl) (by kernel_rfl) ?_
    refine wpChain_nil ?_
    have HB := hide (below_named HW)
    clear hSW
    go_wp2_with fail
    go_ret
    exact ⟨rfl, unhide HB⟩
end Go.Proofs.YtceppmajbkmbdaaDoor
namespace Go.Proofs.YtceppmajbkmbdaaDoor
set_option linter.unusedSimpArgs false
set_option linter.unusedVariables false
open Go.RowKit

def xyT : Nat → Nat × Nat
  | 0 => (1, 0)
  | t + 1 => ((xyT t).2, (2 * (xyT t).1 + 3 * (xyT t).2) % 5)
def rT : Nat → (Nat → Int)
  | 0 => fun _ => 0
  | t + 1 => upd (rT t) (5 * (xyT t).2 + (xyT t).1) (((t + 1) * (t + 2) / 2 % 64 : Nat) : Int)
theorem xyT_lt : ∀ t, t < 25 → (xyT t).1 < 5 ∧ (xyT t).2 < 5 := by decide
theorem infoT : (Tryd.prog.info? 111).map (·.size) = some 25 := by kernel_rfl
theorem builtT : Tryd.prog.built 111 [] = some (kc .i64 25 fun _ => 0).toArray := by kernel_rfl
theorem buildT (w : World) : (Instr.build 111 #[]).run Tryd.prog w = .ok (kv .i64 25 fun _ => 0) w := run_build w _ _ _ builtT
theorem newK {k : IntKind} {n : Nat} {t : TypeId} {f : Nat → Int} (w W : World) (hW : W.heap = w.heap.push (.cells (kc k n f).toArray t (0, 0))) : KAt k n W w.heap.size t f := by
  show W.heap[w.heap.size]? = _
  rw [hW, Array.getElem?_push_size]

set_option maxRecDepth 100000 in
set_option maxHeartbeats 2000000 in
theorem rturns_any (w : World) :
    Calls Tryd.prog 90 #[] w fun x w' => x = .returned (kv .i64 25 (rT 24)) ∧ Below w.heap.size w w' := by
  go_enter Tryd.func90, Tryd.ntmps90
  go_upto_region 1 with fail
  generalize hX1 : w.alloc _ = W1
  have hB1 : Below w.heap.size w W1 := hX1 ▸ (Below.refl _ _).alloc (Nat.le_refl _) _
  have ho1 : KAt .i64 25 W1 w.heap.size 111 (fun _ => 0) := newK w W1 (by rw [← hX1]; rfl)
  have hz1 : W1.heap.size = w.heap.size + 1 := by rw [← hX1]; show (w.heap.push _).size = _; rw [Array.size_push]
  clear hX1
  refine wp_region_lit ?_
  refine wpList_build0 rfl 111 rfl (kv .i64 25 fun _ => 0) (buildT _) ?_
  obtain ⟨cz, hcz⟩ : ∃ cs, cs = (kc .i64 25 fun _ => 0).toArray := ⟨_, rfl⟩
  rw [show kv .i64 25 (fun _ => 0) = .agg cz by rw [hcz]]
  have HCZ := hide hcz
  clear hcz
  refine wpList_plain rfl fun Kt hKt => ?_
  go_simp
  refine hKt _ _ ?_
  clear hKt Kt
  generalize hX2 : W1.alloc _ = W2
  have hB2 : Below W1.heap.size W1 W2 := hX2 ▸ (Below.refl _ _).alloc (Nat.le_refl _) _
  have ho2 : KAt .i64 25 W2 W1.heap.size 111 (fun _ => 0) := newK W1 W2 (by rw [← hX2]; rfl)
  rw [hz1] at ho2
  have HB2 := hide (thenB hB1 hB2)
  have HO1 := hide (ho1.keep hB2)
  have HO2 := hide ho2
  clear hX2 hB1 hB2 ho1 ho2 hz1
  refine wpList_kstore rfl 111 (.tmp 1) (.tmp 6) rfl (w.heap.size + 1) rfl .i64 25 (fun _ => 0) (show Value.agg cz = _ by rw [unhide HCZ]) infoT _ _ (unhide HO2) ?_
  intro W3 HR3 HG3
  have HB3 := hide ((unhide HB2).grown (unhide HG3) (unhide HB2).size (fun i e => by injection e with e; omega))
  have HO3 := hide ((unhide HO1).grown (unhide HG3) (by omega))
  clear HG3 HO1 HO2 HB2
  try simp only [List.getElem_toArray, List.getElem_cons_zero, List.getElem_cons_succ, Act.put, List.setIfInBounds_toArray, List.set_cons_zero, List.set_cons_succ]
  go_wp2_with fail
  go_loopg [2, 3, 4] 24 (fun g y2 y3 y4 wx => ∃ t : Nat, y2 = .int .i64 (((xyT t).1 : Nat) : Int) ∧ y3 = .int .i64 (((xyT t).2 : Nat) : Int) ∧ y4 = .int .i64 (t : Int) ∧ t + g = 24 ∧ KAt .i64 25 wx (w.heap.size + 1) 111 (rT t) ∧ KAt .i64 25 wx w.heap.size 111 (fun _ => 0) ∧ Below w.heap.size w wx)
  case atStart => exact ⟨0, rfl, rfl, rfl, by omega, unhide HR3, unhide HO3, unhide HB3⟩
  case round =>
    obtain ⟨t, rfl, rfl, rfl, htg, hr, ho, hb⟩ := hrel
    have HR := hide hr; have HO := hide ho; have HB := hide hb
    clear hr ho hb
    by_cases ht : t < 24
    · obtain ⟨g, rfl⟩ : ∃ g, gk = g + 1 := ⟨gk - 1, by omega⟩
      obtain ⟨hx5, hy5⟩ := xyT_lt t (by omega)
      obtain ⟨x, hx⟩ : ∃ x, x = (xyT t).1 := ⟨_, rfl⟩
      obtain ⟨y, hy⟩ : ∃ y, y = (xyT t).2 := ⟨_, rfl⟩
      rw [← hx] at hx5 ⊢
      rw [← hy] at hy5 ⊢
      obtain ⟨q, hq⟩ : ∃ q, q = 5 * y + x := ⟨_, rfl⟩
      obtain ⟨a, ha⟩ : ∃ a, a = t + 1 := ⟨_, rfl⟩
      obtain ⟨b, hbb⟩ : ∃ b, b = t + 2 := ⟨_, rfl⟩
      obtain ⟨m, hm⟩ : ∃ m, m = (t + 1) * (t + 2) := ⟨_, rfl⟩
      obtain ⟨r, hr⟩ : ∃ r, r = m / 2 % 64 := ⟨_, rfl⟩
      obtain ⟨z, hz⟩ : ∃ z, z = (2 * x + 3 * y) % 5 := ⟨_, rfl⟩
      have hm8 : m ≤ 25 * 26 := by rw [hm]; exact Nat.mul_le_mul (by omega) (by omega)
      have i1 : (t : Int) < 24 := by omega
      have w1 : IntKind.i64.wrap ((t : Int) + 1) = (a : Int) := (IntWalk.i64_in _ (by omega)).trans (by omega)
      have w2 : IntKind.i64.wrap ((t : Int) + 2) = (b : Int) := (IntWalk.i64_in _ (by omega)).trans (by omega)
      have w3 : IntKind.i64.wrap ((a : Int) * (b : Int)) = (m : Int) := by rw [show (a : Int) * (b : Int) = (m : Int) by rw [hm, ha, hbb]; push_cast; rfl]; exact IntWalk.i64_in _ (by omega)
      have w4 : IntKind.i64.wrap ((m : Int) / 2) = ((m / 2 : Nat) : Int) := (IntWalk.i64_in _ (by omega)).trans (by omega)
      have w5 : (((m / 2 : Nat) : Int)).tmod 64 = (r : Int) := (Int.tmod_eq_emod_of_nonneg (by omega)).trans (by omega)
      have w6 : IntKind.i64.wrap (2 * (x : Int)) = ((2 * x : Nat) : Int) := (IntWalk.i64_in _ (by omega)).trans (by omega)
      have w7 : IntKind.i64.wrap (3 * (y : Int)) = ((3 * y : Nat) : Int) := (IntWalk.i64_in _ (by omega)).trans (by omega)
      have w8 : IntKind.i64.wrap (((2 * x : Nat) : Int) + ((3 * y : Nat) : Int)) = ((2 * x + 3 * y : Nat) : Int) := (IntWalk.i64_in _ (by omega)).trans (by omega)
      have w9 : (((2 * x + 3 * y : Nat) : Int)).tmod 5 = (z : Int) := (Int.tmod_eq_emod_of_nonneg (by omega)).trans (by omega)
      have q1 : q < 25 := by omega
      have q2 : (q : Int) < 25 := by omega
      have q0 : (0 : Int) ≤ (q : Int) := Int.natCast_nonneg _
      have HT : Hid (t + (g + 1) = 24 ∧ x = (xyT t).1 ∧ y = (xyT t).2 ∧ q = 5 * y + x ∧ m = (t + 1) * (t + 2) ∧ r = m / 2 % 64 ∧ z = (2 * x + 3 * y) % 5 ∧ x < 5 ∧ y < 5 ∧ a = t + 1 ∧ q < 25) := ⟨htg, hx, hy, hq, hm, hr, hz, hx5, hy5, ha, q1⟩
      have hcell := (unhide HR).cell q1
      have hfree := (unhide HR).free q
      clear htg hx hy hq hm hr hz hx5 hy5 ha hbb hm8 ht
      go_wp2_with fail
      have hat := rat_any (x : Int) (y : Int) (by have := unhide HT; omega) (by have := unhide HT; omega) wr
      rw [show 5 * ((y : Int) % 5) + (x : Int) % 5 = (q : Int) by have := unhide HT; omega] at hat
      refine hat.mono ?_; rintro x0 W4 ⟨rfl, rfl⟩
      clear hat
      go_wp2_with fail
      go_roundg g
      case measure => omega
      case rel =>
        have h := unhide HT
        have ez : wrap64 (2 * (x : Int) + 3 * (y : Int)) = ((2 * x + 3 * y : Nat) : Int) := ((IntWalk.i64_left _).symm.trans (IntWalk.i64_in _ (by omega))).trans (by omega)
        have ez2 : (wrap64 (2 * (x : Int) + 3 * (y : Int))).tmod 5 = (z : Int) := by rw [ez]; exact (Int.tmod_eq_emod_of_nonneg (by omega)).trans (by omega)
        have er : (m : Int) / 2 % 64 = (((t + 1) * (t + 2) / 2 % 64 : Nat) : Int) := by rw [← h.2.2.2.2.1]; omega
        refine ⟨t + 1, by rw [show (xyT (t + 1)).1 = y from h.2.2.1.symm], by rw [ez2, show (xyT (t + 1)).2 = z by rw [h.2.2.2.2.2.2.1, h.2.1, h.2.2.1]; rfl], by rw [h.2.2.2.2.2.2.2.2.2.1], by omega, ?_, (unhide HO).grown (grownSet (w := W4) ⟨rfl, rfl, rfl, Nat.le_refl _, fun _ _ _ => rfl⟩ _ _) (by omega), (unhide HB).grown (grownSet (w := W4) ⟨rfl, rfl, rfl, Nat.le_refl _, fun _ _ _ => rfl⟩ q _) (unhide HB).size (fun i e => by injection e with e; omega)⟩
        have hk := (unhide HR).set h.2.2.2.2.2.2.2.2.2.2 ((m : Int) / 2 % 64)
        rw [er, h.2.2.2.1, h.2.1, h.2.2.1] at hk
        rw [er, h.2.2.2.1, h.2.1, h.2.2.1]
        exact hk
    · have i1 : ¬ (t : Int) < 24 := by omega
      obtain rfl : t = 24 := by omega
      clear htg ht
      go_upto_region 11 with fail
      refine wp_region_lit ?_
      refine wpList_kload rfl 111 (.tmp 1) rfl (w.heap.size + 1) rfl _ Tryd.underlying111 rfl .i64 25 infoT _ _ (unhide HR) ?_
      refine wpList_kstore rfl 111 (.tmp 0) (.tmp 30) rfl w.heap.size rfl .i64 25 (rT 24) rfl infoT _ _ (unhide HO) ?_
      intro W9 HR9 HG9
      obtain ⟨cr, hcr⟩ : ∃ cs, cs = (kc .i64 25 (rT 24)).toArray := ⟨_, rfl⟩
      rw [show kv .i64 25 (rT 24) = .agg cr by rw [hcr]]
      have HCR := hide hcr
      clear hcr
      try simp only [List.getElem_toArray, List.getElem_cons_zero, List.getElem_cons_succ, Act.put, List.setIfInBounds_toArray, List.set_cons_zero, List.set_cons_succ]
      go_wp2_with fail
      try simp only [Exit.inBlock, Exit.then]
      exact kret rfl rfl w.heap.size rfl .i64 25 _ _ (unhide HR9) _ Tryd.underlying111 rfl infoT ⟨rfl, (unhide HB).grown (unhide HG9) (unhide HB).size (fun i e => by injection e with e; omega)⟩
end Go.Proofs.YtceppmajbkmbdaaDoor
namespace Go.Proofs.YtceppmajbkmbdaaDoor
set_option linter.unusedSimpArgs false
set_option linter.unusedVariables false
open Go.RowKit

def nextS (s : Int) : Int := if 256 ≤ 2 * s then bits .xor .i64 (bits .xor .i64 (2 * s) 256) 113 else 2 * s
def sT : Nat → Int
  | 0 => 1
  | n + 1 => nextS (sT n)
theorem sT_lt : ∀ n, n < 169 → 0 ≤ sT n ∧ sT n < 256 := by decide +kernel
def cF (n : Nat) (j : Nat) : Int := if j < n then IntKind.u64.wrap (bits .and .i64 (sT j) 1) else 0
theorem cF_step (n j : Nat) : upd (cF n) n (IntKind.u64.wrap (bits .and .i64 (sT n) 1)) j = cF (n + 1) j := by
  unfold upd cF
  by_cases h : j = n
  · subst h; rw [if_pos rfl, if_pos (by omega)]
  · rw [if_neg h]
    by_cases hk : j < n
    · rw [if_pos hk, if_pos (by omega)]
    · rw [if_neg hk, if_neg (by omega)]
/-- a constant from the first j of its seven bits -/
def kB (i : Nat) : Nat → Int
  | 0 => 0
  | j + 1 => Or' (kB i j) (IntKind.u64.wrap (cF 168 (7 * i + j) * 2 ^ (2 ^ j - 1)))
def kF (i j : Nat) (q : Nat) : Int := if q < i then kB q 7 else if q = i then kB i j else 0
theorem kF_in (i j : Nat) : kF i j i = kB i j := by unfold kF; rw [if_neg (by omega), if_pos rfl]
theorem kF_step (i j q : Nat) : upd (kF i j) i (kB i (j + 1)) q = kF i (j + 1) q := by
  unfold upd kF
  by_cases h : q = i
  · subst h; rw [if_pos rfl, if_neg (by omega), if_pos rfl]
  · rw [if_neg h]
    by_cases hk : q < i
    · rw [if_pos hk, if_pos hk]
    · rw [if_neg hk, if_neg hk, if_neg h, if_neg h]
theorem kF_next (i q : Nat) : kF i 7 q = kF (i + 1) 0 q := by
  unfold kF
  by_cases hk : q < i
  · rw [if_pos hk, if_pos (by omega)]
  · rw [if_neg hk]
    by_cases h : q = i
    · subst h; rw [if_pos rfl, if_pos (by omega)]
    · rw [if_neg h, if_neg (by omega)]
      by_cases h2 : q = i + 1
      · subst h2; rw [if_pos rfl]; rfl
      · rw [if_neg h2]
theorem kF_const : ∀ q, q < 24 → kF 24 0 q = constT.getD q 0 := by decide +kernel
theorem infoC : (Tryd.prog.info? 120).map (·.size) = some 168 := by kernel_rfl
theorem builtC : Tryd.prog.built 120 [] = some (kc .u64 168 fun _ => 0).toArray := by kernel_rfl
theorem buildC (w : World) : (Instr.build 120 #[]).run Tryd.prog w = .ok (kv .u64 168 fun _ => 0) w := run_build w _ _ _ builtC
theorem infoK : (Tryd.prog.info? 113).map (·.size) = some 24 := by kernel_rfl
theorem builtK : Tryd.prog.built 113 [] = some (kc .u64 24 fun _ => 0).toArray := by kernel_rfl
theorem buildK (w : World) : (Instr.build 113 #[]).run Tryd.prog w = .ok (kv .u64 24 fun _ => 0) w := run_build w _ _ _ builtK

set_option maxRecDepth 100000 in
set_option maxHeartbeats 2000000 in
theorem rconst_any (w : World) :
    Calls Tryd.prog 91 #[] w fun x w' => x = .returned (kv .u64 24 (fun q => constT.getD q 0)) ∧ Below w.heap.size w w' := by
  go_enter Tryd.func91, Tryd.ntmps91
  go_upto_region 1 with fail
  generalize hX1 : w.alloc _ = W1
  have hB1 : Below w.heap.size w W1 := hX1 ▸ (Below.refl _ _).alloc (Nat.le_refl _) _
  have ho1 : KAt .u64 24 W1 w.heap.size 113 (fun _ => 0) := newK w W1 (by rw [← hX1]; rfl)
  have hz1 : W1.heap.size = w.heap.size + 1 := by rw [← hX1]; show (w.heap.push _).size = _; rw [Array.size_push]
  clear hX1
  refine wp_region_lit ?_
  refine wpList_build0 rfl 120 rfl (kv .u64 168 fun _ => 0) (buildC _) ?_
  obtain ⟨cz, hcz⟩ : ∃ cs, cs = (kc .u64 168 fun _ => 0).toArray := ⟨_, rfl⟩
  rw [show kv .u64 168 (fun _ => 0) = .agg cz by rw [hcz]]
  have HCZ := hide hcz
  clear hcz
  refine wpList_plain rfl fun Kt hKt => ?_
  go_simp
  refine hKt _ _ ?_
  clear hKt Kt
  generalize hX2 : W1.alloc _ = W2
  have hB2 : Below W1.heap.size W1 W2 := hX2 ▸ (Below.refl _ _).alloc (Nat.le_refl _) _
  have ho2 : KAt .u64 168 W2 W1.heap.size 120 (fun _ => 0) := newK W1 W2 (by rw [← hX2]; rfl)
  rw [hz1] at ho2
  have HB2 := hide (thenB hB1 hB2)
  have HO1 := hide (ho1.keep hB2)
  have HO2 := hide ho2
  clear hX2 hB1 hB2 ho1 ho2 hz1
  refine wpList_kstore rfl 120 (.tmp 1) (.tmp 7) rfl (w.heap.size + 1) rfl .u64 168 (fun _ => 0) (show Value.agg cz = _ by rw [unhide HCZ]) infoC _ _ (unhide HO2) ?_
  intro W3 HR3 HG3
  have HB3 := hide ((unhide HB2).grown (unhide HG3) (unhide HB2).size (fun i e => by injection e with e; omega))
  have HO3 := hide ((unhide HO1).grown (unhide HG3) (by omega))
  clear HG3 HO1 HO2 HB2
  try simp only [List.getElem_toArray, List.getElem_cons_zero, List.getElem_cons_succ, Act.put, List.setIfInBounds_toArray, List.set_cons_zero, List.set_cons_succ]
  go_wp2_with fail
  go_loopg [2, 3] 168 (fun g y2 y3 wx => ∃ n : Nat, y2 = .int .i64 (sT n) ∧ y3 = .int .i64 (n : Int) ∧ n + g = 168 ∧ KAt .u64 168 wx (w.heap.size + 1) 120 (cF n) ∧ KAt .u64 24 wx w.heap.size 113 (fun _ => 0) ∧ Below w.heap.size w wx)
  case atStart => exact ⟨0, rfl, rfl, by omega, unhide HR3, unhide HO3, unhide HB3⟩
  case round =>
    obtain ⟨n, rfl, rfl, hng, hr, ho, hb⟩ := hrel
    have HR := hide hr; have HO := hide ho; have HB := hide hb
    clear hr ho hb
    by_cases hn : n < 168
    · obtain ⟨g, rfl⟩ : ∃ g, gk = g + 1 := ⟨gk - 1, by omega⟩
      obtain ⟨hs0, hs1⟩ := sT_lt n (by omega)
      obtain ⟨s, hs⟩ : ∃ s, s = sT n := ⟨_, rfl⟩
      rw [← hs] at hs0 hs1 ⊢
      have i1 : (n : Int) < 168 := by omega
      have i0 : (0 : Int) ≤ (n : Int) := Int.natCast_nonneg _
      have w1 : IntKind.i64.wrap ((n : Int) + 1) = ((n + 1 : Nat) : Int) := (IntWalk.i64_in _ (by omega)).trans (by omega)
      have w2 : IntKind.i64.wrap (2 * s) = 2 * s := IntWalk.i64_in _ (by omega)
      have HT : Hid (n + (g + 1) = 168 ∧ s = sT n ∧ n < 168) := ⟨hng, hs, hn⟩
      have hcell := (unhide HR).cell hn
      have hfree := (unhide HR).free n
      clear hng hs hs0 hs1
      by_cases h256 : 256 ≤ 2 * s
      · have hnx : nextS s = bits .xor .i64 (bits .xor .i64 (2 * s) 256) 113 := if_pos h256
        have HNX := hide hnx
        clear hnx hn
        go_wp2_with fail
        go_roundg g
        case measure => omega
        case rel =>
          have h := unhide HT
          have e : sT (n + 1) = nextS s := by rw [h.2.1]; rfl
          refine ⟨n + 1, by rw [e, unhide HNX], rfl, by omega, ?_, (unhide HO).grown (grownSet (w := wr) ⟨rfl, rfl, rfl, Nat.le_refl _, fun _ _ _ => rfl⟩ _ _) (by omega), (unhide HB).grown (grownSet (w := wr) ⟨rfl, rfl, rfl, Nat.le_refl _, fun _ _ _ => rfl⟩ n _) (unhide HB).size (fun i e => by injection e with e; omega)⟩
          have hk := (unhide HR).set h.2.2 (IntKind.u64.wrap (bits .and .i64 s 1))
          refine hk.fn (fun j _ => ?_)
          rw [h.2.1]
          exact cF_step n j
      · have hnx : nextS s = 2 * s := if_neg h256
        have HNX := hide hnx
        clear hnx hn
        go_wp2_with fail
        go_roundg g
        case measure => omega
        case rel =>
          have h := unhide HT
          have e : sT (n + 1) = nextS s := by rw [h.2.1]; rfl
          refine ⟨n + 1, by rw [e, unhide HNX], rfl, by omega, ?_, (unhide HO).grown (grownSet (w := wr) ⟨rfl, rfl, rfl, Nat.le_refl _, fun _ _ _ => rfl⟩ _ _) (by omega), (unhide HB).grown (grownSet (w := wr) ⟨rfl, rfl, rfl, Nat.le_refl _, fun _ _ _ => rfl⟩ n _) (unhide HB).size (fun i e => by injection e with e; omega)⟩
          have hk := (unhide HR).set h.2.2 (IntKind.u64.wrap (bits .and .i64 s 1))
          refine hk.fn (fun j _ => ?_)
          rw [h.2.1]
          exact cF_step n j
    · have i1 : ¬ (n : Int) < 168 := by omega
      obtain rfl : n = 168 := by omega
      clear hng hn
      go_upto_region 10 with fail
      refine wp_region_lit ?_
      refine wpList_build0 rfl 113 rfl (kv .u64 24 fun _ => 0) (buildK _) ?_
      obtain ⟨cy, hcy⟩ : ∃ cs, cs = (kc .u64 24 fun _ => 0).toArray := ⟨_, rfl⟩
      rw [show kv .u64 24 (fun _ => 0) = .agg cy by rw [hcy]]
      have HCY := hide hcy
      clear hcy
      refine wpList_plain rfl fun Kt hKt => ?_
      go_simp
      refine hKt _ _ ?_
      clear hKt Kt
      generalize hX4 : wr.alloc _ = W4
      have hB4 : Below wr.heap.size wr W4 := hX4 ▸ (Below.refl _ _).alloc (Nat.le_refl _) _
      have HN4 := hide (newK wr W4 (k := .u64) (n := 24) (t := 113) (f := fun _ => 0) (by rw [← hX4]; rfl))
      have HR4 := hide ((unhide HR).keep hB4)
      have HO4 := hide ((unhide HO).keep hB4)
      have HB4 := hide (thenB (unhide HB) hB4)
      obtain ⟨N, hN⟩ : ∃ N, N = wr.heap.size := ⟨_, rfl⟩
      have HZ : Hid (w.heap.size + 1 < N) := hN ▸ (unhide HR).lt
      rw [← hN] at HN4 ⊢
      clear hX4 hB4 hN HR HO HB
      refine wpList_kstore rfl 113 (.tmp 4) (.tmp 24) rfl N rfl .u64 24 (fun _ => 0) (show Value.agg cy = _ by rw [unhide HCY]) infoK _ _ (unhide HN4) ?_
      intro W5 HK5 HG5
      have HR5 := hide ((unhide HR4).grown (unhide HG5) (by have := unhide HZ; omega))
      have HO5 := hide ((unhide HO4).grown (unhide HG5) (by have := unhide HZ; omega))
      have HB5 := hide ((unhide HB4).grown (unhide HG5) (unhide HB4).size (fun i e => by injection e with e; have := unhide HZ; omega))
      clear HG5 HR4 HO4 HB4 HN4
      try simp only [List.getElem_toArray, List.getElem_cons_zero, List.getElem_cons_succ, Act.put, List.setIfInBounds_toArray, List.set_cons_zero, List.set_cons_succ]
      go_wp2_with fail
      go_loopg [5] 24 (fun g y5 wx => ∃ i : Nat, y5 = .int .i64 (i : Int) ∧ i + g = 24 ∧ KAt .u64 24 wx N 113 (kF i 0) ∧ KAt .u64 168 wx (w.heap.size + 1) 120 (cF 168) ∧ KAt .u64 24 wx w.heap.size 113 (fun _ => 0) ∧ Below w.heap.size w wx)
      case atStart => exact ⟨0, rfl, by omega, (unhide HK5).fn (fun j _ => by unfold kF; rw [if_neg (by omega)]; split <;> rfl), unhide HR5, unhide HO5, unhide HB5⟩
      case round =>
        obtain ⟨i, rfl, hig, hk, hr, ho, hb⟩ := hrel
        have HK := hide hk; have HR := hide hr; have HO := hide ho; have HB := hide hb
        clear hk hr ho hb
        by_cases hi : i < 24
        · obtain ⟨g, rfl⟩ : ∃ g, gk = g + 1 := ⟨gk - 1, by omega⟩
          have i1 : (i : Int) < 24 := by omega
          have i0 : (0 : Int) ≤ (i : Int) := Int.natCast_nonneg _
          have wi : IntKind.i64.wrap ((i : Int) + 1) = ((i + 1 : Nat) : Int) := (IntWalk.i64_in _ (by omega)).trans (by omega)
          obtain ⟨s7, hs7⟩ : ∃ z, z = 7 * i := ⟨_, rfl⟩
          have w7 : IntKind.i64.wrap (7 * (i : Int)) = (s7 : Int) := (IntWalk.i64_in _ (by omega)).trans (by omega)
          have HI : Hid (i + (g + 1) = 24 ∧ i < 24 ∧ s7 = 7 * i) := ⟨hig, hi, hs7⟩
          clear hig hi hs7
          go_wp2_with fail
          go_loopg [6] 7 (fun g' y6 wx => ∃ j : Nat, y6 = .int .i64 (j : Int) ∧ j + g' = 7 ∧ KAt .u64 24 wx N 113 (kF i j) ∧ KAt .u64 168 wx (w.heap.size + 1) 120 (cF 168) ∧ KAt .u64 24 wx w.heap.size 113 (fun _ => 0) ∧ Below w.heap.size w wx)
          case atStart => exact ⟨0, rfl, by omega, unhide HK, unhide HR, unhide HO, unhide HB⟩
          case round =>
            clear HK HR HO HB
            obtain ⟨j, rfl, hjg, hk, hr, ho, hb⟩ := hrel
            have HK := hide hk; have HR := hide hr; have HO := hide ho; have HB := hide hb
            clear hk hr ho hb
            by_cases hj : j < 7
            · obtain ⟨g2, rfl⟩ : ∃ g, gk = g + 1 := ⟨gk - 1, by omega⟩
              obtain ⟨q, hq⟩ : ∃ q, q = 7 * i + j := ⟨_, rfl⟩
              obtain ⟨e, he⟩ : ∃ e, e = 2 ^ j := ⟨_, rfl⟩
              have he1 : 1 ≤ e ∧ e ≤ 64 := by rw [he]; exact ⟨Nat.pow_pos (by omega), Nat.pow_le_pow_right (n := 2) (by omega) (show j ≤ 6 by omega)⟩
              obtain ⟨d, hd⟩ : ∃ d, d = e - 1 := ⟨_, rfl⟩
              have j1 : (j : Int) < 7 := by omega
              have j0 : (0 : Int) ≤ (j : Int) := Int.natCast_nonneg _
              have wj : IntKind.i64.wrap ((j : Int) + 1) = ((j + 1 : Nat) : Int) := (IntWalk.i64_in _ (by omega)).trans (by omega)
              have wq : IntKind.i64.wrap ((s7 : Int) + (j : Int)) = (q : Int) := (IntWalk.i64_in _ (by have := unhide HI; omega)).trans (by have := unhide HI; omega)
              have q1 : q < 168 := by have := unhide HI; omega
              have q0 : (0 : Int) ≤ (q : Int) := Int.natCast_nonneg _
              have q2 : (q : Int) < 168 := by omega
              have hs1 := shift_shl .u64 .i64 1 (j : Int) j0 (by simp [IntKind.bits]; omega)
              have ej : ((j : Int)).toNat = j := Int.toNat_natCast j
              have we : IntKind.u64.wrap (2 ^ j) = (e : Int) := by rw [show ((2 : Int) ^ j) = (e : Int) by rw [he]; push_cast; rfl]; exact IntWalk.u64_in _ (by omega)
              have wd : IntKind.u64.wrap ((e : Int) - 1) = (d : Int) := (IntWalk.u64_in _ (by omega)).trans (by omega)
              have d0 : (0 : Int) ≤ (d : Int) := Int.natCast_nonneg _
              have hs2 := shift_shl .u64 .u64 (cF 168 q) (d : Int) d0 (by simp [IntKind.bits]; omega)
              have ed : ((d : Int)).toNat = d := Int.toNat_natCast d
              have HJ : Hid (j + (g2 + 1) = 7 ∧ j < 7 ∧ q = 7 * i + j ∧ e = 2 ^ j ∧ d = e - 1 ∧ q < 168) := ⟨hjg, hj, hq, he, hd, q1⟩
              have hcK := (unhide HK).cell (unhide HI).2.1
              rw [kF_in] at hcK
              have hcF := (unhide HK).free i
              have hcC := (unhide HR).cell q1
              clear hjg hj hq he hd he1 q1
              go_wp2_with fail
              obtain ⟨W, hW⟩ : ∃ W, W = wr.drewN 1 := ⟨_, rfl⟩
              have HW : Hid (W = wr.drewN 1) := hW
              have hbw := below_named HW
              have HKW := hide ((unhide HK).keep hbw)
              have HRW := hide ((unhide HR).keep hbw)
              have HOW := hide ((unhide HO).keep hbw)
              have HBW := hide (thenB (unhide HB) hbw)
              have hcK := (unhide HKW).cell (unhide HI).2.1
              rw [kF_in] at hcK
              have hcF := (unhide HKW).free i
              have hcC := (unhide HRW).cell (unhide HJ).2.2.2.2.2
              clear hW hbw HK HR HO HB
              refine still_drew 16 W HW (by kernel_rfl) (by kernel_rfl) ?_
              simp only [List.take_succ_cons, List.take_zero, List.drop_succ_cons, List.drop_zero]
              repeat still_step
              refine wpStill_nil ?_
              go_wp2_with fail
              go_roundg g2
              case measure => omega
              case rel =>
                have h := unhide HJ
                have hI := unhide HI
                have hz := unhide HZ
                have hk := (unhide HKW).set hI.2.1 (bits .or .u64 (kB i j) (IntKind.u64.wrap (cF 168 q * 2 ^ d)))
                refine ⟨j + 1, rfl, by omega, hk.fn (fun p _ => ?_), (unhide HRW).grown (grownSet (w := W) ⟨rfl, rfl, rfl, Nat.le_refl _, fun _ _ _ => rfl⟩ _ _) (by omega), (unhide HOW).grown (grownSet (w := W) ⟨rfl, rfl, rfl, Nat.le_refl _, fun _ _ _ => rfl⟩ _ _) (by omega), (unhide HBW).grown (grownSet (w := W) ⟨rfl, rfl, rfl, Nat.le_refl _, fun _ _ _ => rfl⟩ i _) (unhide HBW).size (fun q e => by injection e with e; omega)⟩
                rw [← kF_step i j p]
                rw [show kB i (j + 1) = bits .or .u64 (kB i j) (IntKind.u64.wrap (cF 168 q * 2 ^ d)) by rw [h.2.2.1, h.2.2.2.2.1, h.2.2.2.1]; rfl]
            · have j1 : ¬ (j : Int) < 7 := by omega
              obtain rfl : j = 7 := by omega
              clear hjg hj
              go_wp2_with fail
              go_roundg g
              case measure => omega
              case rel => exact ⟨i + 1, rfl, by have := unhide HI; omega, (unhide HK).fn (fun q _ => kF_next i q), unhide HR, unhide HO, unhide HB⟩
        · have i1 : ¬ (i : Int) < 24 := by omega
          obtain rfl : i = 24 := by omega
          clear hig hi
          go_upto_region 18 with fail
          refine wp_region_lit ?_
          refine wpList_kload rfl 113 (.tmp 4) rfl N rfl _ Tryd.underlying113 rfl .u64 24 infoK _ _ ((unhide HK).fn kF_const) ?_
          refine wpList_kstore rfl 113 (.tmp 0) (.tmp 49) rfl w.heap.size rfl .u64 24 (fun q => constT.getD q 0) rfl infoK _ _ (unhide HO) ?_
          intro W9 HR9 HG9
          obtain ⟨cr, hcr⟩ : ∃ cs, cs = (kc .u64 24 (fun q => constT.getD q 0)).toArray := ⟨_, rfl⟩
          rw [show kv .u64 24 (fun q => constT.getD q 0) = .agg cr by rw [hcr]]
          have HCR := hide hcr
          clear hcr
          try simp only [List.getElem_toArray, List.getElem_cons_zero, List.getElem_cons_succ, Act.put, List.setIfInBounds_toArray, List.set_cons_zero, List.set_cons_succ]
          go_wp2_with fail
          try simp only [Exit.inBlock, Exit.then]
          exact kret rfl rfl w.heap.size rfl .u64 24 _ _ (unhide HR9) _ Tryd.underlying113 rfl infoK ⟨rfl, (unhide HB).grown (unhide HG9) (unhide HB).size (fun i e => by injection e with e; omega)⟩
end Go.Proofs.YtceppmajbkmbdaaDoor
namespace Go.Proofs.YtceppmajbkmbdaaDoor
set_option linter.unusedSimpArgs false
set_option linter.unusedVariables false

theorem X_def (a b : Int) : X a b = ((BitVec.ofInt 64 a ^^^ BitVec.ofInt 64 b).toNat : Int) := by
  show IntKind.u64.wrap ((BitVec.ofInt 64 a ^^^ BitVec.ofInt 64 b).toNat : Int) = _
  rw [IntKind.wrap_u64]
  have := (BitVec.ofInt 64 a ^^^ BitVec.ofInt 64 b).isLt
  omega
theorem ofInt_X (a b : Int) : BitVec.ofInt 64 (X a b) = BitVec.ofInt 64 a ^^^ BitVec.ofInt 64 b := by
  rw [X_def, BitVec.ofInt_natCast, BitVec.ofNat_toNat, BitVec.setWidth_eq]
theorem X_comm (a b : Int) : X a b = X b a := by rw [X_def, X_def, BitVec.xor_comm]
theorem X_assoc (a b c : Int) : X (X a b) c = X a (X b c) := by rw [X_def, ofInt_X, X_def a, ofInt_X, BitVec.xor_assoc]
theorem X_zero_X (a b : Int) : X 0 (X a b) = X a b := by
  rw [X_def 0, ofInt_X, X_def a]
  congr 2
  simp
def cR (f : Nat → Int) (x : Nat) : Int := X (X (X (X (X 0 (f x)) (f (x + 5))) (f (x + 10))) (f (x + 15))) (f (x + 20))
theorem cR_eq (f : Nat → Int) (x : Nat) : cR f x = colF f x := by
  unfold cR colF
  rw [X_assoc 0, X_zero_X]
def vR (f : Nat → Int) (x y : Nat) : Int := X (X (f (5 * y + x)) (cR f ((x + 4) % 5))) (rolR (cR f ((x + 1) % 5)) 1)
theorem vR_eq (f : Nat → Int) (x y : Nat) (hx : x < 5) (hy : y < 5) : vR f x y = colsF f 5 (5 * y + x) := by
  unfold vR colsF difF
  rw [if_pos (by omega), X_assoc, cR_eq, cR_eq, show (5 * y + x) % 5 = x by omega]
  rfl
def pR (x y : Nat) : Nat := 5 * ((2 * x + 3 * y) % 5) + y
def bR (f : Nat → Int) (rt : Nat → Nat) : Nat → (Nat → Int)
  | 0 => fun _ => 0
  | m + 1 => upd (bR f rt m) (pR (m / 5) (m % 5)) (rolR (vR f (m / 5) (m % 5)) (rt (5 * (m % 5) + m / 5)))
def mOf (j : Nat) : Nat := ((List.range 25).find? fun m => pR (m / 5) (m % 5) == j).getD 0
theorem mOf_p : ∀ j, j < 25 → pR (mOf j / 5) (mOf j % 5) = j ∧ mOf j < 25 := by decide
theorem p_mOf : ∀ m, m < 25 → mOf (pR (m / 5) (m % 5)) = m := by decide
theorem bR_at (f : Nat → Int) (rt : Nat → Nat) (j : Nat) (hj : j < 25) : ∀ n, n ≤ 25 → bR f rt n j = if mOf j < n then rolR (vR f (mOf j / 5) (mOf j % 5)) (rt (5 * (mOf j % 5) + mOf j / 5)) else 0
  | 0, _ => rfl
  | n + 1, hn => by
    unfold bR upd
    have ih := bR_at f rt j hj n (by omega)
    by_cases h : j = pR (n / 5) (n % 5)
    · have e : mOf j = n := by rw [h]; exact p_mOf n (by omega)
      rw [if_pos h, if_pos (by omega), e]
    · rw [if_neg h, ih]
      have hne : mOf j ≠ n := fun e => h (by rw [← e]; exact (mOf_p j hj).1.symm)
      by_cases hl : mOf j < n
      · rw [if_pos hl, if_pos (by omega)]
      · rw [if_neg hl, if_neg (by omega)]
/-- the reference's numbers of turns -/
def rtN (q : Nat) : Nat := (rT 24 q).toNat
theorem rtN_lt : ∀ q, q < 25 → rtN q < 64 ∧ rT 24 q = (rtN q : Int) := by decide +kernel
theorem turn_tab : ∀ j, j < 25 → (idxOf j < 24 → prevAt (idxOf j) = 5 * (mOf j % 5) + mOf j / 5 ∧ turnAt (idxOf j) = rtN (5 * (mOf j % 5) + mOf j / 5) ∧ turnAt (idxOf j) ≠ 0) ∧ (¬ idxOf j < 24 → j = 5 * (mOf j % 5) + mOf j / 5 ∧ rtN (5 * (mOf j % 5) + mOf j / 5) = 0) := by decide +kernel
theorem bR_eq (f : Nat → Int) (j : Nat) (hj : j < 25) : bR f rtN 25 j = turnF (colsF f 5) 24 j := by
  obtain ⟨h1, h2⟩ := mOf_p j hj
  obtain ⟨t1, t2⟩ := turn_tab j hj
  rw [bR_at f rtN j hj 25 (Nat.le_refl _), if_pos h2, vR_eq f _ _ (by omega) (by omega)]
  unfold turnF
  by_cases hi : idxOf j < 24
  · obtain ⟨a1, a2, a3⟩ := t1 hi
    rw [if_pos hi, a1, ← a2]
    exact if_neg a3
  · obtain ⟨a1, a2⟩ := t2 hi
    rw [if_neg hi, a2, ← a1]
    rfl
def oR (g : Nat → Int) : Nat → (Nat → Int)
  | 0 => fun _ => 0
  | m + 1 => upd (oR g m) (5 * (m % 5) + m / 5) (X (g (5 * (m % 5) + m / 5)) (An (X (g (5 * (m % 5) + (m / 5 + 1) % 5)) 18446744073709551615) (g (5 * (m % 5) + (m / 5 + 2) % 5))))
theorem oR_at (g : Nat → Int) (j : Nat) (hj : j < 25) : ∀ n, n ≤ 25 → oR g n j = if 5 * (j % 5) + j / 5 < n then X (g j) (An (X (g (5 * (j / 5) + (j % 5 + 1) % 5)) 18446744073709551615) (g (5 * (j / 5) + (j % 5 + 2) % 5))) else 0
  | 0, _ => rfl
  | n + 1, hn => by
    unfold oR upd
    have ih := oR_at g j hj n (by omega)
    by_cases h : j = 5 * (n % 5) + n / 5
    · rw [if_pos h, if_pos (by omega), ← h, show n % 5 = j / 5 by omega, show n / 5 = j % 5 by omega]
    · rw [if_neg h, ih]
      by_cases hl : 5 * (j % 5) + j / 5 < n
      · rw [if_pos hl, if_pos (by omega)]
      · rw [if_neg hl, if_neg (by omega)]
theorem oR_eq (g : Nat → Int) (j : Nat) (hj : j < 25) : oR g 25 j = rowsF g 5 j := by
  rw [oR_at g j hj 25 (Nat.le_refl _), if_pos (by omega)]
  unfold rowsF
  rw [if_pos (by omega), X_comm (g _) 18446744073709551615, show j / 5 * 5 = 5 * (j / 5) by omega]
  rw [show (j + 1) % 5 = (j % 5 + 1) % 5 by omega, show (j + 2) % 5 = (j % 5 + 2) % 5 by omega]
  rfl
theorem oR_congr {g h : Nat → Int} (e : ∀ j, j < 25 → g j = h j) (j : Nat) (hj : j < 25) : oR g 25 j = oR h 25 j := by
  rw [oR_at g j hj 25 (Nat.le_refl _), oR_at h j hj 25 (Nat.le_refl _), e j hj, e (5 * (j / 5) + (j % 5 + 1) % 5) (by omega), e (5 * (j / 5) + (j % 5 + 2) % 5) (by omega)]
/-- the reference's round -/
def rndR (f : Nat → Int) (k : Int) : Nat → Int := upd (oR (bR f rtN 25) 25) 0 (X (oR (bR f rtN 25) 25 0) k)
theorem rndR_eq (f : Nat → Int) (i j : Nat) (hj : j < 25) : rndR f (constT.getD i 0) j = roundF f i j := by
  have e : ∀ j, j < 25 → oR (bR f rtN 25) 25 j = rowsF (turnF (colsF f 5) 24) 5 j := fun j hj => by
    rw [oR_congr (fun q hq => bR_eq f q hq) j hj, oR_eq _ j hj]
  unfold rndR roundF upd
  by_cases h : j = 0
  · rw [if_pos h, if_pos h, e 0 (by omega)]
  · rw [if_neg h, if_neg h, e j hj]
theorem cR_congr {f g : Nat → Int} (h : ∀ j, j < 25 → f j = g j) (x : Nat) (hx : x < 5) : cR f x = cR g x := by
  unfold cR
  rw [h x (by omega), h (x + 5) (by omega), h (x + 10) (by omega), h (x + 15) (by omega), h (x + 20) (by omega)]
end Go.Proofs.YtceppmajbkmbdaaDoor
namespace Go.Proofs.YtceppmajbkmbdaaDoor
set_option linter.unusedSimpArgs false
set_option linter.unusedVariables false

theorem or_eq_xor (a b n : Nat) (ha : a < 2 ^ n) : a ||| 2 ^ n * b = a ^^^ 2 ^ n * b := by
  apply Nat.eq_of_testBit_eq
  intro i
  rw [Nat.testBit_or, Nat.testBit_xor, Nat.testBit_two_pow_mul]
  by_cases hi : i ≥ n
  · rw [Nat.testBit_lt_two_pow (Nat.lt_of_lt_of_le ha (Nat.pow_le_pow_right (by decide) hi))]
    simp
  · simp [hi]
theorem X_nat (a b : Nat) (ha : a < 2 ^ 64) (hb : b < 2 ^ 64) : X (a : Int) (b : Int) = ((a ^^^ b : Nat) : Int) := by
  rw [X_def, BitVec.ofInt_natCast, BitVec.ofInt_natCast, BitVec.toNat_xor, BitVec.toNat_ofNat, BitVec.toNat_ofNat, Nat.mod_eq_of_lt ha, Nat.mod_eq_of_lt hb]
theorem Or_nat (a b : Nat) (ha : a < 2 ^ 64) (hb : b < 2 ^ 64) : Or' (a : Int) (b : Int) = ((a ||| b : Nat) : Int) := by
  show IntKind.u64.wrap ((BitVec.ofInt 64 (a : Int) ||| BitVec.ofInt 64 (b : Int)).toNat : Int) = _
  have hl : a ||| b < 2 ^ 64 := Nat.or_lt_two_pow ha hb
  rw [IntKind.wrap_u64, BitVec.ofInt_natCast, BitVec.ofInt_natCast, BitVec.toNat_or, BitVec.toNat_ofNat, BitVec.toNat_ofNat, Nat.mod_eq_of_lt ha, Nat.mod_eq_of_lt hb]
  generalize a ||| b = c at hl ⊢
  omega
theorem sh_nat (b n : Nat) (hb : b < 256) (hn : n + 8 ≤ 64) : sh (b : Int) n = ((2 ^ n * b : Nat) : Int) ∧ 2 ^ n * b < 2 ^ (n + 8) := by
  have h1 : 2 ^ n * b < 2 ^ (n + 8) := by
    rw [Nat.pow_add]
    exact Nat.mul_lt_mul_of_pos_left hb (Nat.two_pow_pos n)
  have h2 : 2 ^ (n + 8) ≤ 2 ^ 64 := Nat.pow_le_pow_right (by decide) hn
  have h3 : 2 ^ n * b < 2 ^ 64 := Nat.lt_of_lt_of_le h1 h2
  refine ⟨?_, h1⟩
  show IntKind.u64.wrap ((b : Int) * 2 ^ n) = _
  have e : (b : Int) * 2 ^ n = ((2 ^ n * b : Nat) : Int) := by push_cast; rw [Int.mul_comm]
  rw [e, IntKind.wrap_u64]
  generalize 2 ^ n * b = c at h3 ⊢
  omega
theorem lane_step (a b n : Nat) (ha : a < 2 ^ n) (hb : b < 256) (hn : n + 8 ≤ 64) : ∃ c : Nat, c < 2 ^ (n + 8) ∧ Or' (a : Int) (sh (b : Int) n) = (c : Int) ∧ X (a : Int) (sh (b : Int) n) = (c : Int) := by
  obtain ⟨e, h1⟩ := sh_nat b n hb hn
  have h2 : 2 ^ (n + 8) ≤ 2 ^ 64 := Nat.pow_le_pow_right (by decide) hn
  have ha8 : a < 2 ^ (n + 8) := Nat.lt_of_lt_of_le ha (Nat.pow_le_pow_right (by decide) (by omega))
  refine ⟨a ||| 2 ^ n * b, Nat.or_lt_two_pow ha8 h1, ?_, ?_⟩
  · rw [e, Or_nat _ _ (by omega) (by omega)]
  · rw [e, X_nat _ _ (by omega) (by omega), or_eq_xor _ _ _ ha]
def laneX (g : Nat → Int) : Int := X (X (X (X (X (X (X (sh (g 0) 0) (sh (g 1) 8)) (sh (g 2) 16)) (sh (g 3) 24)) (sh (g 4) 32)) (sh (g 5) 40)) (sh (g 6) 48)) (sh (g 7) 56)
theorem byt_natR {c : Int} (h : 0 ≤ c ∧ c < 256) : ∃ b : Nat, b < 256 ∧ c = (b : Int) := ⟨c.toNat, by omega, by omega⟩
theorem laneF_X (g : Nat → Int) (hg : ∀ i, i < 8 → 0 ≤ g i ∧ g i < 256) : laneF g = laneX g := by
  unfold laneF laneX
  obtain ⟨b0, l0, e0⟩ := byt_natR (hg 0 (by omega))
  obtain ⟨b1, l1, e1⟩ := byt_natR (hg 1 (by omega))
  obtain ⟨b2, l2, e2⟩ := byt_natR (hg 2 (by omega))
  obtain ⟨b3, l3, e3⟩ := byt_natR (hg 3 (by omega))
  obtain ⟨b4, l4, e4⟩ := byt_natR (hg 4 (by omega))
  obtain ⟨b5, l5, e5⟩ := byt_natR (hg 5 (by omega))
  obtain ⟨b6, l6, e6⟩ := byt_natR (hg 6 (by omega))
  obtain ⟨b7, l7, e7⟩ := byt_natR (hg 7 (by omega))
  rw [e0, e1, e2, e3, e4, e5, e6, e7]
  have s0 : sh (b0 : Int) 0 = (b0 : Int) := by rw [(sh_nat b0 0 l0 (by omega)).1]; simp
  rw [s0]
  obtain ⟨c1, h1, o1, x1⟩ := lane_step b0 b1 8 l0 l1 (by omega)
  rw [o1, x1]
  obtain ⟨c2, h2, o2, x2⟩ := lane_step c1 b2 16 h1 l2 (by omega)
  rw [o2, x2]
  obtain ⟨c3, h3, o3, x3⟩ := lane_step c2 b3 24 h2 l3 (by omega)
  rw [o3, x3]
  obtain ⟨c4, h4, o4, x4⟩ := lane_step c3 b4 32 h3 l4 (by omega)
  rw [o4, x4]
  obtain ⟨c5, h5, o5, x5⟩ := lane_step c4 b5 40 h4 l5 (by omega)
  rw [o5, x5]
  obtain ⟨c6, h6, o6, x6⟩ := lane_step c5 b6 48 h5 l6 (by omega)
  rw [o6, x6]
  obtain ⟨c7, h7, o7, x7⟩ := lane_step c6 b7 56 h6 l7 (by omega)
  rw [o7, x7]
/-- the lanes with the first bytes of a block taken in -/
def addR (f : Nat → Int) (q : Nat → Int) : Nat → (Nat → Int)
  | 0 => f
  | i + 1 => upd (addR f q i) (i / 8) (X (addR f q i (i / 8)) (sh (q i) (8 * (i % 8))))
theorem addR_next (f q : Nat → Int) (k r : Nat) (hr : r < 8) : addR f q (8 * k + r + 1) = upd (addR f q (8 * k + r)) k (X (addR f q (8 * k + r) k) (sh (q (8 * k + r)) (8 * r))) := by
  show upd (addR f q (8 * k + r)) ((8 * k + r) / 8) (X (addR f q (8 * k + r) ((8 * k + r) / 8)) (sh (q (8 * k + r)) (8 * ((8 * k + r) % 8)))) = _
  rw [show (8 * k + r) / 8 = k by omega, show (8 * k + r) % 8 = r by omega]
theorem addR_off (f q : Nat → Int) (k j : Nat) (hj : j ≠ k) : ∀ r, r ≤ 8 → addR f q (8 * k + r) j = addR f q (8 * k) j
  | 0, _ => rfl
  | r + 1, h => by
    rw [← Nat.add_assoc, addR_next f q k r (by omega)]
    unfold upd
    rw [if_neg hj]
    exact addR_off f q k j hj r (by omega)
theorem addR_on (f q : Nat → Int) (k r : Nat) (hr : r < 8) : addR f q (8 * k + r + 1) k = X (addR f q (8 * k + r) k) (sh (q (8 * k + r)) (8 * r)) := by
  rw [addR_next f q k r hr]
  unfold upd
  rw [if_pos rfl]
theorem addR_lane (f q : Nat → Int) (k : Nat) : addR f q (8 * (k + 1)) k = X (addR f q (8 * k) k) (laneX fun i => q (8 * k + i)) := by
  rw [show 8 * (k + 1) = 8 * k + 7 + 1 by omega, addR_on f q k 7 (by omega)]
  rw [show 8 * k + 7 = 8 * k + 6 + 1 by omega, addR_on f q k 6 (by omega)]
  rw [show 8 * k + 6 = 8 * k + 5 + 1 by omega, addR_on f q k 5 (by omega)]
  rw [show 8 * k + 5 = 8 * k + 4 + 1 by omega, addR_on f q k 4 (by omega)]
  rw [show 8 * k + 4 = 8 * k + 3 + 1 by omega, addR_on f q k 3 (by omega)]
  rw [show 8 * k + 3 = 8 * k + 2 + 1 by omega, addR_on f q k 2 (by omega)]
  rw [show 8 * k + 2 = 8 * k + 1 + 1 by omega, addR_on f q k 1 (by omega)]
  rw [show 8 * k + 1 = 8 * k + 0 + 1 by omega, addR_on f q k 0 (by omega)]
  unfold laneX
  simp only [X_assoc, Nat.add_zero, Nat.add_assoc, Nat.mul_zero, Nat.reduceMul, Nat.reduceAdd]
theorem addR_eq (f : Nat → Int) (q : List Int) (hq : ∀ i, 0 ≤ q.getD i 0 ∧ q.getD i 0 < 256) (j : Nat) : ∀ k, addR f (fun i => q.getD i 0) (8 * k) j = addF f q k j
  | 0 => by unfold addF; rw [if_neg (by omega)]; rfl
  | k + 1 => by
    have ih := addR_eq f q hq j k
    by_cases hj : j = k
    · subst hj
      rw [addR_lane, ih]
      unfold addF
      rw [if_neg (by omega), if_pos (by omega), laneF_X _ fun i _ => hq _]
    · rw [show 8 * (k + 1) = 8 * k + 8 by omega, addR_off f _ k j hj 8 (by omega), ih]
      unfold addF
      by_cases hk : j < k
      · rw [if_pos hk, if_pos (by omega)]
      · rw [if_neg hk, if_neg (by omega)]
end Go.Proofs.YtceppmajbkmbdaaDoor
namespace Go.Proofs.YtceppmajbkmbdaaDoor
set_option linter.unusedSimpArgs false
set_option linter.unusedVariables false

/-- the lanes after n blocks of p -/
def blkF (f : Nat → Int) (p : List Int) : Nat → (Nat → Int)
  | 0 => f
  | n + 1 => absF (blkF f p n) ((p.drop (136 * n)).take 136)
theorem runS_blk (f : Nat → Int) (p : List Int) : ∀ n, 136 * n ≤ p.length → runS (f, []) (p.take (136 * n)) = (blkF f p n, [])
  | 0, _ => rfl
  | n + 1, h => by
    have e : p.take (136 * (n + 1)) = p.take (136 * n) ++ (p.drop (136 * n)).take 136 := by
      rw [show 136 * (n + 1) = 136 * n + 136 by omega, List.take_add]
    have hl : ((p.drop (136 * n)).take 136).length = 136 := by rw [List.length_take, List.length_drop]; omega
    rw [e, runS_append, runS_blk f p n (by omega), runS_chunk _ _ (by intro h0; rw [h0] at hl; simp at hl) (by rw [hl]; simp)]
    rw [if_pos (by rw [hl]; rfl)]
    simp [blkF]
theorem blkF_congr (f : Nat → Int) (p q : List Int) (n : Nat) (h : p.take (136 * n) = q.take (136 * n)) (hp : 136 * n ≤ p.length) (hq : 136 * n ≤ q.length) : blkF f p n = blkF f q n := by
  have a := runS_blk f p n hp
  have b := runS_blk f q n hq
  rw [h, b] at a
  injection a with a1 _
  exact a1.symm
/-- the padded text -/
def padR (l : List Int) : List Int := l.take (136 * (l.length / 136)) ++ padB (l.drop (136 * (l.length / 136)))
theorem padB_length (q : List Int) (h : q.length < 136) : (padB q).length = 136 := by
  unfold padB
  rw [List.length_set, List.length_append, List.length_cons, List.length_replicate]
  omega
theorem padR_length (l : List Int) : (padR l).length = 136 * (l.length / 136 + 1) := by
  unfold padR
  rw [List.length_append, padB_length _ (by rw [List.length_drop]; omega), List.length_take]
  omega
theorem hashF_blk (l : List Int) : hashF l = outF (blkF (fun _ => 0) (padR l) (l.length / 136 + 1)) := by
  obtain ⟨m, hm⟩ : ∃ m, m = l.length / 136 := ⟨_, rfl⟩
  have h1 : l = l.take (136 * m) ++ l.drop (136 * m) := (List.take_append_drop _ _).symm
  have hd : (l.drop (136 * m)).length < 136 := by rw [List.length_drop]; omega
  have hr : runS (fun _ => 0, []) l = (blkF (fun _ => 0) l m, l.drop (136 * m)) := by
    conv => lhs; rw [h1]
    rw [runS_append, runS_blk _ _ _ (by omega)]
    by_cases h0 : l.drop (136 * m) = []
    · rw [h0]; rfl
    · rw [runS_chunk _ _ h0 (by simp only [List.length_nil]; omega), if_neg (by simp only [List.length_nil]; omega)]
      rfl
  unfold hashF
  rw [hr, ← hm]
  show outF (absF (blkF (fun _ => 0) l m) (padB (l.drop (136 * m)))) = outF (absF (blkF (fun _ => 0) (padR l) m) (((padR l).drop (136 * m)).take 136))
  have ht : (l.take (136 * m)).length = 136 * m := by rw [List.length_take]; omega
  have e1 : (padR l).take (136 * m) = l.take (136 * m) := by
    unfold padR
    rw [← hm, List.take_append_of_le_length (by omega), List.take_take, Nat.min_self]
  have e2 : (padR l).drop (136 * m) = padB (l.drop (136 * m)) := by
    unfold padR
    rw [← hm, List.drop_append_of_le_length (by omega), List.drop_eq_nil_of_le (by omega), List.nil_append]
  rw [e2, List.take_of_length_le (by rw [padB_length _ hd]; exact Nat.le_refl _), blkF_congr _ (padR l) l m e1 (by rw [padR_length]; omega) (by omega)]
/-- the padding as the reference lays it: a 6, zeros up to a whole block, and the last byte with 128 -/
theorem padR_eq (l : List Int) (z : Nat) (hz : (l.length + 1 + z) % 136 = 0) (hz2 : z < 136) :
    padR l = (l ++ 6 :: List.replicate z 0).set (l.length + z) (bits .xor .u8 ((l ++ 6 :: List.replicate z 0).getD (l.length + z) 0) 128) := by
  obtain ⟨m, hm⟩ : ∃ m, m = l.length / 136 := ⟨_, rfl⟩
  have ht : (l.take (136 * m)).length = 136 * m := by rw [List.length_take]; omega
  have hd : (l.drop (136 * m)).length = l.length - 136 * m := List.length_drop
  have hz3 : 135 - (l.drop (136 * m)).length = z := by omega
  have e : l ++ 6 :: List.replicate z 0 = l.take (136 * m) ++ (l.drop (136 * m) ++ 6 :: List.replicate z (0 : Int)) := by
    rw [← List.append_assoc, List.take_append_drop]
  have ei : l.length + z = 136 * m + 135 := by omega
  unfold padR padB
  rw [← hm, hz3, e, ei]
  conv => rhs; rw [List.set_append_right _ _ (by omega), ht, show 136 * m + 135 - 136 * m = 135 by omega]
  congr 3
  rw [List.getD_eq_getElem?_getD, List.getD_eq_getElem?_getD]
  conv => rhs; rw [List.getElem?_append_right (by omega), ht, show 136 * m + 135 - 136 * m = 135 by omega]
theorem padR_byt (l : List Int) (h : ∀ c ∈ l, 0 ≤ c ∧ c < 256) : ∀ c ∈ padR l, 0 ≤ c ∧ c < 256 := by
  intro c hc
  unfold padR at hc
  rcases List.mem_append.1 hc with hc | hc
  · exact h c (List.mem_of_mem_take hc)
  · unfold padB at hc
    rcases List.mem_or_eq_of_mem_set hc with hc | rfl
    · rcases List.mem_append.1 hc with hc | hc
      · exact h c (List.mem_of_mem_drop hc)
      · rcases List.mem_cons.1 hc with rfl | hc
        · decide
        · rw [List.eq_of_mem_replicate hc]; decide
    · show 0 ≤ IntKind.u8.wrap _ ∧ IntKind.u8.wrap _ < 256
      rw [IntKind.wrap_u8]
      omega
end Go.Proofs.YtceppmajbkmbdaaDoor
namespace Go.Proofs.YtceppmajbkmbdaaDoor
set_option linter.unusedSimpArgs false
set_option linter.unusedVariables false
open Go.RowKit

theorem OwnB.opened {w : World} {base : Nat} {v : Value} {l : List Int} (h : OwnB w base v l) (hl : l ≠ []) : ∃ g cap, v = .slice (some ⟨g, 0, none⟩) l.length cap ∧ base ≤ g ∧
    (∀ i, i < l.length → w.cell? ⟨g, i, none⟩ = some (.int .u8 (l.getD i 0)) ∧ w.frozen? ⟨g, i, none⟩ = false) ∧ ∀ i c, i < l.length → OwnB (w.setCell ⟨g, i, none⟩ (.int .u8 c)) base v (l.set i c) := by
  have hh := h
  rcases h.2 with ⟨rfl, h0⟩ | ⟨g, cap, cur, rfl, hbg, hg, h1, h2, h3, h4⟩
  · exact absurd (List.length_eq_zero_iff.1 h0) hl
  · refine ⟨g, cap, rfl, hbg, fun i hi => ⟨?_, ?_⟩, fun i c hi => ?_⟩
    · rw [hh.cellAt i (by omega), List.getElem?_map, List.getD_eq_getElem?_getD, List.getElem?_eq_getElem hi]
      rfl
    · simp [World.frozen?, hg]
    · refine ⟨by rw [List.length_map, List.length_set]; omega, .inr ⟨g, cap, cur.setIfInBounds i (.int .u8 c), by rw [List.length_set], hbg, box_put hg, by rw [List.length_set]; exact h1, h2, by rw [Array.size_setIfInBounds]; exact h3, ?_⟩⟩
      rw [List.length_set, Array.toList_setIfInBounds, List.take_set, h4, List.map_set]
theorem grown_one' (W : World) (b i : Nat) (v : Value) : W.grownBy (W.setCell ⟨b, i, none⟩ v) (some b) := grownSet (w := W) ⟨rfl, rfl, rfl, Nat.le_refl _, fun _ _ _ => rfl⟩ _ _
theorem pad_byt (l : List Int) (h : ∀ c ∈ l, Byt c) (t : Nat) : ∀ c ∈ l ++ 6 :: List.replicate t 0, Byt c := by
  intro c hc
  rcases List.mem_append.1 hc with hc | hc
  · exact h c hc
  · rcases List.mem_cons.1 hc with rfl | hc
    · exact ⟨by decide, by decide⟩
    · rw [List.eq_of_mem_replicate hc]; exact ⟨by decide, by decide⟩
theorem pad_next (l : List Int) (t : Nat) : (l ++ 6 :: List.replicate t 0) ++ [0] = l ++ 6 :: List.replicate (t + 1) (0 : Int) := by
  rw [List.append_assoc, List.cons_append, List.replicate_succ']
theorem pad_len (l : List Int) (t : Nat) : (l ++ 6 :: List.replicate t (0 : Int)).length = l.length + 1 + t := by
  rw [List.length_append, List.length_cons, List.length_replicate]; omega
/-- a row of one byte, just made -/
theorem one_bt (w W : World) (c : Int) (hc : Byt c) (h : W = w.alloc (.cells #[.int .u8 c] 5)) : Bt W (some ⟨w.heap.size, 0, none⟩) [c] := by
  refine ⟨fun d hd => by rw [List.mem_singleton.1 hd]; exact hc, fun _ => ⟨w.heap.size, 0, rfl, fun j hj => ?_⟩⟩
  obtain rfl : j = 0 := by simpa using hj
  have hb : W.heap[w.heap.size]? = some (.cells #[.int .u8 c] 5 (0, 0)) := by
    rw [h]
    show (w.heap.push _)[w.heap.size]? = _
    rw [Array.getElem?_push_size]
  simp [World.cell?, hb]
set_option maxRecDepth 100000 in
set_option maxHeartbeats 2000000 in
theorem rpadded_any (w : World) (A : Option Addr) (c : Nat) (l : List Int) (hA : Bt w A l) (hc : l.length ≤ c) (hn : A = none → c = 0) (hl : l.length ≤ 900000000) :
    Calls Tryd.prog 92 #[.slice A l.length c] w fun x w' => ∃ v, x = .returned v ∧ OwnB w' w.heap.size v (padR l) ∧ Below w.heap.size w w' := by
  obtain ⟨n, hnl⟩ : ∃ n, n = l.length := ⟨_, rfl⟩
  have HA := hide hA
  have HL : Hid (n = l.length ∧ l.length ≤ 900000000) := ⟨hnl, hl⟩
  have HNn := hide hn
  obtain ⟨z, hz⟩ : ∃ z, z = (136 - (l.length + 1) % 136) % 136 := ⟨_, rfl⟩
  have HZ : Hid (z < 136 ∧ (l.length + 1 + z) % 136 = 0 ∧ ∀ t, t < z → (l.length + 1 + t) % 136 ≠ 0) := ⟨by omega, by omega, fun t ht => by omega⟩
  rw [← hnl]
  clear hnl hl hA hn hz hc
  go_enter Tryd.func92, Tryd.ntmps92
  go_upto_region 1 with fail
  refine wp_region_lit ?_
  refine wpList_plain rfl fun Kt hKt => ?_
  go_simp
  refine hKt _ _ ?_
  clear hKt Kt
  generalize hX : w.alloc _ = W1
  have hb1 : Below w.heap.size w W1 := hX ▸ (Below.refl _ _).alloc (Nat.le_refl _) _
  have hown1 : OwnB W1 w.heap.size (.slice (some ⟨w.heap.size, 0, none⟩) 0 0) [] := hX ▸ World.ownsRow_lit w #[] 0 (Nat.le_refl _) (Nat.zero_le _) rfl
  clear hX
  refine wpList_plain rfl fun Kt hKt => ?_
  go_simp
  refine hKt _ _ ?_
  clear hKt Kt
  refine wpList_plain rfl fun Kt hKt => ?_
  obtain ⟨v2, W2, hr2, hown2, hg2⟩ := run_append_B hown1 22 A c ((unhide HA).keep hb1) (unhide HNn) (by have := unhide HL; simp; omega) hb1.size
  rw [← (unhide HL).1] at hr2
  have hb2 := grown_below hb1 hg2 (fun k hk => (hown1.lt k hk).1)
  refine wp_append (.tmp 4) (.tmp 5) 22 rfl _ _ v2 W2 rfl rfl hr2 ?_
  refine hKt _ _ ?_
  clear hKt Kt hr2 hown1 hg2 hb1
  try simp only [List.getElem_toArray, List.getElem_cons_zero, List.getElem_cons_succ, Act.put, List.setIfInBounds_toArray, List.set_cons_zero, List.set_cons_succ]
  refine wpList_plain rfl fun Kt hKt => ?_
  go_simp
  refine hKt _ _ ?_
  clear hKt Kt
  generalize hX : W2.alloc _ = W3
  have hb3 := thenB hb2 (hX ▸ (Below.refl _ _).alloc (Nat.le_refl _) _ : Below W2.heap.size W2 W3)
  have hown3 := hown2.later (hX ▸ (Below.refl _ _).alloc (Nat.le_refl _) _ : Below W2.heap.size W2 W3)
  have hsix := one_bt W2 W3 6 ⟨by decide, by decide⟩ (hX ▸ rfl)
  clear hX hown2 hb2
  refine wpList_plain rfl fun Kt hKt => ?_
  obtain ⟨v4, W4, hr4, hown4, hg4⟩ := run_append_B hown3 22 (some ⟨W2.heap.size, 0, none⟩) 1 hsix (fun h => by cases h) (by have := unhide HL; simp; omega) hb3.size
  have hb4 := grown_below hb3 hg4 (fun k hk => (hown3.lt k hk).1)
  refine wp_append (.tmp 6) (.tmp 7) 22 rfl _ _ v4 W4 rfl rfl hr4 ?_
  refine hKt _ _ ?_
  clear hKt Kt hr4 hown3 hg4 hb3 hsix
  try simp only [List.getElem_toArray, List.getElem_cons_zero, List.getElem_cons_succ, Act.put, List.setIfInBounds_toArray, List.set_cons_zero, List.set_cons_succ]
  have HO4 := hide hown4
  have HB4 := hide hb4
  clear hown4 hb4
  go_wp2_with fail
  go_loopg [3] z (fun g y3 wx => ∃ t : Nat, t + g = z ∧ OwnB wx w.heap.size y3 (l ++ 6 :: List.replicate t 0) ∧ Below w.heap.size w wx)
  case atStart => exact ⟨0, by omega, unhide HO4, unhide HB4⟩
  case round =>
    clear HO4 HB4
    obtain ⟨t, htg, ho, hb⟩ := hrel
    obtain ⟨g, cap, rfl, hbg, hcell, hset⟩ := ho.opened (by intro h; have := congrArg List.length h; rw [pad_len] at this; simp at this)
    rw [pad_len] at ho hcell hset
    rw [pad_len]
    generalize hnn : l.length + 1 + t = nn at ho hcell hset ⊢
    obtain ⟨rr, hrr⟩ : ∃ rr, rr = nn % 136 := ⟨_, rfl⟩
    have tr : ((nn : Nat) : Int).tmod 136 = (rr : Int) := (Int.tmod_eq_emod_of_nonneg (by omega)).trans (by omega)
    by_cases ht : t < z
    · obtain ⟨g2, rfl⟩ : ∃ g, gk = g + 1 := ⟨gk - 1, by omega⟩
      have r0 : ¬ (rr : Int) = 0 := by
        have := (unhide HZ).2.2 t ht
        rw [hnn] at this
        omega
      have HT : Hid (t + (g2 + 1) = z ∧ t < z ∧ l.length + 1 + t = nn) := ⟨htg, ht, hnn⟩
      have HO := hide ho
      have HB := hide hb
      clear htg ht hnn hrr ho hb hcell hset
      go_upto_region 3 with fail
      refine wp_region_lit ?_
      refine wpList_plain rfl fun Kt hKt => ?_
      go_simp
      refine hKt _ _ ?_
      clear hKt Kt
      refine wpList_plain rfl fun Kt hKt => ?_
      go_simp
      refine hKt _ _ ?_
      clear hKt Kt
      generalize hX : wr.alloc _ = W5
      have hb5 := thenB (unhide HB) (hX ▸ (Below.refl _ _).alloc (Nat.le_refl _) _ : Below wr.heap.size wr W5)
      have hown5 := (unhide HO).later (hX ▸ (Below.refl _ _).alloc (Nat.le_refl _) _ : Below wr.heap.size wr W5)
      have hzero := one_bt wr W5 0 ⟨by decide, by decide⟩ (hX ▸ rfl)
      clear hX HO HB
      refine wpList_plain rfl fun Kt hKt => ?_
      obtain ⟨v6, W6, hr6, hown6, hg6⟩ := run_append_B hown5 22 (some ⟨wr.heap.size, 0, none⟩) 1 hzero (fun h => by cases h) (by have := unhide HL; have := unhide HZ; have := unhide HT; rw [pad_len, List.length_singleton]; omega) hb5.size
      have hb6 := grown_below hb5 hg6 (fun k hk => (hown5.lt k hk).1)
      refine wp_append (.tmp 13) (.tmp 14) 22 rfl _ _ v6 W6 rfl rfl hr6 ?_
      refine hKt _ _ ?_
      clear hKt Kt hr6 hown5 hg6 hb5 hzero
      try simp only [List.getElem_toArray, List.getElem_cons_zero, List.getElem_cons_succ, Act.put, List.setIfInBounds_toArray, List.set_cons_zero, List.set_cons_succ]
      have HO6 := hide hown6
      have HB6 := hide hb6
      clear hown6 hb6
      go_wp2_with fail
      go_roundg g2
      case measure => omega
      case rel => exact ⟨t + 1, by have := unhide HT; omega, by rw [← pad_next]; exact unhide HO6, unhide HB6⟩
    · obtain rfl : t = z := by omega
      obtain ⟨la, hla⟩ : ∃ la, la = l.length + t := ⟨_, rfl⟩
      have r0 : (rr : Int) = 0 := by have := (unhide HZ).2.1; rw [hnn] at this; omega
      have wl : IntKind.i64.wrap ((nn : Int) - 1) = (la : Int) := (IntWalk.i64_in _ (by have := unhide HL; have := unhide HZ; omega)).trans (by omega)
      have la0 : (0 : Int) ≤ (la : Int) := Int.natCast_nonneg _
      have la1 : (la : Int) < (nn : Int) := by omega
      have la2 : la < nn := by omega
      obtain ⟨hcl, hfl⟩ := hcell la la2
      obtain ⟨c0, hc0⟩ : ∃ c0, c0 = (l ++ 6 :: List.replicate t 0).getD la 0 := ⟨_, rfl⟩
      rw [← hc0] at hcl
      have HS := hide (hset la (bits .xor .u8 c0 128) la2)
      have HP : Hid ((l ++ 6 :: List.replicate t 0).set la (bits .xor .u8 c0 128) = padR l) := by
        rw [hc0, hla]
        exact (padR_eq l t (unhide HZ).2.1 (unhide HZ).1).symm
      rw [unhide HP] at HS
      have HBG : Hid (w.heap.size ≤ g) := hbg
      have HB := hide hb
      clear htg ht hnn hrr ho hb hcell hset hla hc0 HP hbg la2
      go_wp2_with fail
      go_ret
      exact ⟨_, rfl, unhide HS, (unhide HB).grown (grown_one' _ _ _ _) (unhide HB).size (fun i e => by injection e with e; have := unhide HBG; omega)⟩
theorem padR_pos (l : List Int) : (padR l).length ≤ l.length + 136 ∧ l.length < (padR l).length := by
  rw [padR_length]
  omega
end Go.Proofs.YtceppmajbkmbdaaDoor
namespace Go.Proofs.YtceppmajbkmbdaaDoor
set_option linter.unusedSimpArgs false
set_option linter.unusedVariables false
open Go.RowKit

def cP (f : Nat → Int) (x : Nat) : Nat → Int
  | 0 => 0
  | y + 1 => X (cP f x y) (f (5 * y + x))
theorem cP_five (f : Nat → Int) (x : Nat) : cP f x 5 = cR f x := by
  show X (X (X (X (X 0 (f (5 * 0 + x))) (f (5 * 1 + x))) (f (5 * 2 + x))) (f (5 * 3 + x))) (f (5 * 4 + x)) = _
  unfold cR
  rw [show 5 * 0 + x = x by omega, show 5 * 1 + x = x + 5 by omega, show 5 * 2 + x = x + 10 by omega, show 5 * 3 + x = x + 15 by omega, show 5 * 4 + x = x + 20 by omega]
def cA (f : Nat → Int) (x y : Nat) (q : Nat) : Int := if q < x then cP f q 5 else if q = x then cP f x y else 0
theorem cA_in (f : Nat → Int) (x y : Nat) : cA f x y x = cP f x y := by unfold cA; rw [if_neg (by omega), if_pos rfl]
theorem cA_step (f : Nat → Int) (x y q : Nat) : upd (cA f x y) x (cP f x (y + 1)) q = cA f x (y + 1) q := by
  unfold upd cA
  by_cases h : q = x
  · subst h; rw [if_pos rfl, if_neg (by omega), if_pos rfl]
  · rw [if_neg h]
    by_cases hk : q < x
    · rw [if_pos hk, if_pos hk]
    · rw [if_neg hk, if_neg hk, if_neg h, if_neg h]
theorem cA_next (f : Nat → Int) (x q : Nat) : cA f x 5 q = cA f (x + 1) 0 q := by
  unfold cA
  by_cases hk : q < x
  · rw [if_pos hk, if_pos (by omega)]
  · rw [if_neg hk]
    by_cases h : q = x
    · subst h; rw [if_pos rfl, if_pos (by omega)]
    · rw [if_neg h, if_neg (by omega)]
      by_cases h2 : q = x + 1
      · subst h2; rw [if_pos rfl]; rfl
      · rw [if_neg h2]
theorem cA_end (f : Nat → Int) (q : Nat) (hq : q < 5) : cA f 5 0 q = cR f q := by
  unfold cA
  rw [if_pos hq, cP_five]
theorem infoS : (Tryd.prog.info? 110).map (·.size) = some 25 := by kernel_rfl
theorem builtS : Tryd.prog.built 110 [] = some (kc .u64 25 fun _ => 0).toArray := by kernel_rfl
theorem buildS (w : World) : (Instr.build 110 #[]).run Tryd.prog w = .ok (kv .u64 25 fun _ => 0) w := run_build w _ _ _ builtS
theorem info5 : (Tryd.prog.info? 121).map (·.size) = some 5 := by kernel_rfl
theorem built5 : Tryd.prog.built 121 [] = some (kc .u64 5 fun _ => 0).toArray := by kernel_rfl
theorem build5 (w : World) : (Instr.build 121 #[]).run Tryd.prog w = .ok (kv .u64 5 fun _ => 0) w := run_build w _ _ _ built5
/-- what stays through a round: its two arguments in their boxes, the place of its result -/
structure RF (w : World) (f : Nat → Int) (V : World) : Prop where
  l : KAt .u64 25 V w.heap.size 110 f
  r : KAt .i64 25 V (w.heap.size + 1) 111 (rT 24)
  o : KAt .u64 25 V (w.heap.size + 2) 110 (fun _ => 0)
  b : Below w.heap.size w V
theorem RF.keep {w V V' : World} {f : Nat → Int} (h : RF w f V) (hb : Below V.heap.size V V') : RF w f V' := ⟨h.l.keep hb, h.r.keep hb, h.o.keep hb, thenB h.b hb⟩
theorem RF.grown {w V V' : World} {f : Nat → Int} (h : RF w f V) {N : Nat} (hN : w.heap.size + 3 ≤ N) (hg : V.grownBy V' (some N)) : RF w f V' :=
  ⟨h.l.grown hg (by omega), h.r.grown hg (by omega), h.o.grown hg (by omega), h.b.grown hg h.b.size (fun i e => by injection e with e; omega)⟩
theorem grown_one (W : World) (b i : Nat) (v : Value) : W.grownBy (W.setCell ⟨b, i, none⟩ v) (some b) := grownSet (w := W) ⟨rfl, rfl, rfl, Nat.le_refl _, fun _ _ _ => rfl⟩ _ _
theorem rat_nat (x y : Nat) (hx : x < 5) (hy : y < 5) (w : World) : Calls Tryd.prog 97 #[.int .i64 (x : Int), .int .i64 (y : Int)] w fun e w' => e = .returned (.int .i64 ((5 * y + x : Nat) : Int)) ∧ w' = w := by
  have := rat_any (x : Int) (y : Int) (by omega) (by omega) w
  rw [show 5 * ((y : Int) % 5) + (x : Int) % 5 = ((5 * y + x : Nat) : Int) by omega] at this
  exact this
/-- behind the first loops -/
structure RG (w : World) (f : Nat → Int) (V : World) : Prop where
  f_ : RF w f V
  c : KAt .u64 5 V (w.heap.size + 3) 121 (cR f)
theorem RG.keep {w V V' : World} {f : Nat → Int} (h : RG w f V) (hb : Below V.heap.size V V') : RG w f V' := ⟨h.f_.keep hb, h.c.keep hb⟩
theorem RG.grown {w V V' : World} {f : Nat → Int} (h : RG w f V) {N : Nat} (hN : w.heap.size + 4 ≤ N) (hg : V.grownBy V' (some N)) : RG w f V' := ⟨h.f_.grown (by omega) hg, h.c.grown hg (by omega)⟩
theorem rrol_one (v : Int) (w : World) : Calls Tryd.prog 98 #[.int .u64 v, .int .i64 1] w fun e w' => e = .returned (.int .u64 (rolR v 1)) ∧ Below w.heap.size w w' := rrol_any v 1 (by decide) w
theorem bR_step (f : Nat → Int) (x y : Nat) (hy : y < 5) : upd (bR f rtN (5 * x + y)) (pR x y) (rolR (vR f x y) (rtN (5 * y + x))) = bR f rtN (5 * x + y + 1) := by
  show _ = upd (bR f rtN (5 * x + y)) (pR ((5 * x + y) / 5) ((5 * x + y) % 5)) _
  rw [show (5 * x + y) / 5 = x by omega, show (5 * x + y) % 5 = y by omega]
theorem oR_step (g : Nat → Int) (x y : Nat) (hy : y < 5) : upd (oR g (5 * x + y)) (5 * y + x) (X (g (5 * y + x)) (An (X (g (5 * y + (x + 1) % 5)) 18446744073709551615) (g (5 * y + (x + 2) % 5)))) = oR g (5 * x + y + 1) := by
  show _ = upd (oR g (5 * x + y)) (5 * ((5 * x + y) % 5) + (5 * x + y) / 5) _
  rw [show (5 * x + y) / 5 = x by omega, show (5 * x + y) % 5 = y by omega]
/-- the numbers of the second loop's round -/
structure NB (x y q x4 xn s2 s3 s5 pp a4 a1 : Nat) (zz : Int) : Prop where
  wa4 : IntKind.i64.wrap ((x : Int) + 4) = (a4 : Int)
  ta4 : ((a4 : Int)).tmod 5 = (x4 : Int)
  wa1 : IntKind.i64.wrap ((x : Int) + 1) = (a1 : Int)
  ta1 : ((a1 : Int)).tmod 5 = (xn : Int)
  ws2 : IntKind.i64.wrap (2 * (x : Int)) = (s2 : Int)
  ws3 : IntKind.i64.wrap (3 * (y : Int)) = (s3 : Int)
  ws5 : IntKind.i64.wrap ((s2 : Int) + (s3 : Int)) = (s5 : Int)
  wzz : IntKind.i64.wrap ((s5 : Int) - 5) = zz
  z0 : -5 ≤ zz
  z1 : zz ≤ 1000
  ez : 5 * (zz % 5) + (y : Int) % 5 = (pp : Int)
  q1 : q < 25
  c41 : x4 < 5
  c11 : xn < 5
  p1 : pp < 25
  eq_ : q = 5 * y + x
  e4 : x4 = (x + 4) % 5
  en : xn = (x + 1) % 5
  ep : pp = pR x y
theorem nb_mk (x y : Nat) (hx : x < 5) (hy : y < 5) : ∃ q x4 xn s2 s3 s5 pp a4 a1 zz, NB x y q x4 xn s2 s3 s5 pp a4 a1 zz := by
  refine ⟨5 * y + x, (x + 4) % 5, (x + 1) % 5, 2 * x, 3 * y, 2 * x + 3 * y, pR x y, x + 4, x + 1, ((2 * x + 3 * y : Nat) : Int) - 5, ?_⟩
  have hp : pR x y = 5 * ((2 * x + 3 * y) % 5) + y := rfl
  constructor
  · exact (IntWalk.i64_in _ (by omega)).trans (by omega)
  · exact (Int.tmod_eq_emod_of_nonneg (by omega)).trans (by omega)
  · exact (IntWalk.i64_in _ (by omega)).trans (by omega)
  · exact (Int.tmod_eq_emod_of_nonneg (by omega)).trans (by omega)
  · exact (IntWalk.i64_in _ (by omega)).trans (by omega)
  · exact (IntWalk.i64_in _ (by omega)).trans (by omega)
  · exact (IntWalk.i64_in _ (by omega)).trans (by omega)
  · exact (IntWalk.i64_in _ (by omega)).trans (by omega)
  · omega
  · omega
  · have hy5 : (y : Int) % 5 = (y : Int) := by omega
    have hm : (((2 * x + 3 * y : Nat) : Int) - 5) % 5 = (((2 * x + 3 * y) % 5 : Nat) : Int) := by
      generalize 2 * x + 3 * y = n
      omega
    rw [hp, hm, hy5]
    generalize (2 * x + 3 * y) % 5 = n
    omega
  · omega
  · omega
  · omega
  · rw [hp]; omega
  · rfl
  · rfl
  · rfl
  · rfl
theorem lt_int {a b : Nat} (h : a < b) : (a : Int) < (b : Int) := by omega
/-- the numbers of the third loop's round -/
structure NC (x y q p1 p2 a1 a2 : Nat) : Prop where
  wa1 : IntKind.i64.wrap ((x : Int) + 1) = (a1 : Int)
  wa2 : IntKind.i64.wrap ((x : Int) + 2) = (a2 : Int)
  z1 : a1 ≤ 1000
  z2 : a2 ≤ 1000
  e1 : 5 * ((y : Int) % 5) + (a1 : Int) % 5 = (p1 : Int)
  e2 : 5 * ((y : Int) % 5) + (a2 : Int) % 5 = (p2 : Int)
  q1 : q < 25
  l1 : p1 < 25
  l2 : p2 < 25
  eq_ : q = 5 * y + x
  en : p1 = 5 * y + (x + 1) % 5
  em : p2 = 5 * y + (x + 2) % 5
theorem nc_mk (x y : Nat) (hx : x < 5) (hy : y < 5) : ∃ q p1 p2 a1 a2, NC x y q p1 p2 a1 a2 := by
  refine ⟨5 * y + x, 5 * y + (x + 1) % 5, 5 * y + (x + 2) % 5, x + 1, x + 2, ?_⟩
  constructor
  · exact (IntWalk.i64_in _ (by omega)).trans (by omega)
  · exact (IntWalk.i64_in _ (by omega)).trans (by omega)
  · omega
  · omega
  · omega
  · omega
  · omega
  · omega
  · omega
  · rfl
  · rfl
  · rfl
def BF (N : Nat) (g : Nat → Int) (V : World) : Prop := KAt .u64 25 V N 110 g
/-- in the third loops -/
structure RH (w : World) (f : Nat → Int) (N : Nat) (g : Nat → Int) (V : World) : Prop where
  g_ : RF w f V
  k : BF N g V
theorem RH.keep {w V V' : World} {f g : Nat → Int} {N : Nat} (h : RH w f N g V) (hb : Below V.heap.size V V') : RH w f N g V' := ⟨h.g_.keep hb, KAt.keep h.k hb⟩
theorem RH.grown {w V V' : World} {f g : Nat → Int} {N : Nat} (h : RH w f N g V) {M : Nat} (hN : w.heap.size + 4 ≤ N) (hM : N < M) (hg : V.grownBy V' (some M)) : RH w f N g V' := ⟨h.g_.grown (by omega) hg, KAt.grown h.k hg (by omega)⟩
/-- worlds with the argument in its box -/
def LF (w : World) (f : Nat → Int) (V : World) : Prop := KAt .u64 25 V w.heap.size 110 f

set_option maxRecDepth 100000 in
set_option maxHeartbeats 4000000 in
theorem rround_any (w : World) (f : Nat → Int) (kk : Int) :
    Calls Tryd.prog 93 #[kv .u64 25 f, kv .i64 25 (rT 24), .int .u64 kk] w fun x w' => x = .returned (kv .u64 25 (rndR f kk)) ∧ Below w.heap.size w w' := by
  obtain ⟨cl, hcl⟩ : ∃ cs, cs = (kc .u64 25 f).toArray := ⟨_, rfl⟩
  obtain ⟨cr, hcr⟩ : ∃ cs, cs = (kc .i64 25 (rT 24)).toArray := ⟨_, rfl⟩
  rw [show kv .u64 25 f = .agg cl by rw [hcl], show kv .i64 25 (rT 24) = .agg cr by rw [hcr]]
  have hsl : cl.size = 25 := by rw [hcl, List.size_toArray, kc_length]
  have hsr : cr.size = 25 := by rw [hcr, List.size_toArray, kc_length]
  have HCL := hide hcl; have HCR := hide hcr
  clear hcl hcr
  go_enter Tryd.func93, Tryd.ntmps93
  go_upto_region 1 with fail
  generalize hX1 : w.alloc _ = W1
  have hB1 : Below w.heap.size w W1 := hX1 ▸ (Below.refl _ _).alloc (Nat.le_refl _) _
  have ho1 : KAt .u64 25 W1 w.heap.size 110 f := newK w W1 (by rw [← hX1, ← unhide HCL]; rfl)
  have hz1 : W1.heap.size = w.heap.size + 1 := by rw [← hX1]; show (w.heap.push _).size = _; rw [Array.size_push]
  generalize hX2 : W1.alloc _ = W2
  have hB2 : Below W1.heap.size W1 W2 := hX2 ▸ (Below.refl _ _).alloc (Nat.le_refl _) _
  have ho2 : KAt .i64 25 W2 W1.heap.size 111 (rT 24) := newK W1 W2 (by rw [← hX2, ← unhide HCR]; rfl)
  have hz2 : W2.heap.size = w.heap.size + 2 := by rw [← hX2]; show (W1.heap.push _).size = _; rw [Array.size_push]; omega
  generalize hX3 : W2.alloc _ = W3
  have hB3 : Below W2.heap.size W2 W3 := hX3 ▸ (Below.refl _ _).alloc (Nat.le_refl _) _
  have ho3 : KAt .u64 25 W3 W2.heap.size 110 (fun _ => 0) := newK W2 W3 (by rw [← hX3]; rfl)
  have hz3 : W3.heap.size = w.heap.size + 3 := by rw [← hX3]; show (W2.heap.push _).size = _; rw [Array.size_push]; omega
  rw [hz1] at ho2
  rw [hz2] at ho3
  have hRF : RF w f W3 := ⟨(ho1.keep hB2).keep hB3, ho2.keep hB3, ho3, thenB (thenB hB1 hB2) hB3⟩
  have HRF := hide hRF
  clear hX1 hX2 hX3 hB1 hB2 hB3 ho1 ho2 ho3 hz1 hz2 hRF
  refine wp_region_lit ?_
  refine wpList_build0 rfl 121 rfl (kv .u64 5 fun _ => 0) (build5 _) ?_
  obtain ⟨cz, hcz⟩ : ∃ cs, cs = (kc .u64 5 fun _ => 0).toArray := ⟨_, rfl⟩
  rw [show kv .u64 5 (fun _ => 0) = .agg cz by rw [hcz]]
  have HCZ := hide hcz
  clear hcz
  refine wpList_plain rfl fun Kt hKt => ?_
  go_simp
  refine hKt _ _ ?_
  clear hKt Kt
  generalize hX4 : W3.alloc _ = W4
  have hB4 : Below W3.heap.size W3 W4 := hX4 ▸ (Below.refl _ _).alloc (Nat.le_refl _) _
  have hc4 : KAt .u64 5 W4 W3.heap.size 121 (fun _ => 0) := newK W3 W4 (by rw [← hX4]; rfl)
  have HRF4 := hide ((unhide HRF).keep hB4)
  rw [hz3] at hc4
  have HC4 := hide hc4
  clear hX4 hB4 hc4 hz3 HRF
  refine wpList_kstore rfl 121 (.tmp 7) (.tmp 17) rfl (w.heap.size + 3) rfl .u64 5 (fun _ => 0) (show Value.agg cz = _ by rw [unhide HCZ]) info5 _ _ (unhide HC4) ?_
  intro W5 HC5 HG5
  have HRF5 := hide ((unhide HRF4).grown (Nat.le_refl _) (unhide HG5))
  clear HG5 HRF4 HC4
  try simp only [List.getElem_toArray, List.getElem_cons_zero, List.getElem_cons_succ, Act.put, List.setIfInBounds_toArray, List.set_cons_zero, List.set_cons_succ]
  go_wp2_with fail
  go_loopg [8] 5 (fun g y8 wx => ∃ x : Nat, y8 = .int .i64 (x : Int) ∧ x + g = 5 ∧ KAt .u64 5 wx (w.heap.size + 3) 121 (cA f x 0) ∧ RF w f wx)
  case atStart => exact ⟨0, rfl, by omega, (unhide HC5).fn (fun j _ => by unfold cA; rw [if_neg (by omega)]; split <;> rfl), unhide HRF5⟩
  case round =>
    clear HC5 HRF5
    obtain ⟨x, rfl, hxg, hc, hrf⟩ := hrel
    have HC := hide hc; have HRF := hide hrf
    clear hc hrf
    by_cases hx : x < 5
    · obtain ⟨g, rfl⟩ : ∃ g, gk = g + 1 := ⟨gk - 1, by omega⟩
      have x1 : (x : Int) < 5 := by omega
      have x0 : (0 : Int) ≤ (x : Int) := Int.natCast_nonneg _
      have wx : IntKind.i64.wrap ((x : Int) + 1) = ((x + 1 : Nat) : Int) := (IntWalk.i64_in _ (by omega)).trans (by omega)
      have HX : Hid (x + (g + 1) = 5 ∧ x < 5) := ⟨hxg, hx⟩
      clear hxg hx
      go_wp2_with fail
      go_loopg [9] 5 (fun g' y9 wx => ∃ y : Nat, y9 = .int .i64 (y : Int) ∧ y + g' = 5 ∧ KAt .u64 5 wx (w.heap.size + 3) 121 (cA f x y) ∧ RF w f wx)
      case atStart => exact ⟨0, rfl, by omega, unhide HC, unhide HRF⟩
      case round =>
        clear HC HRF
        obtain ⟨y, rfl, hyg, hc, hrf⟩ := hrel
        have HC := hide hc; have HRF := hide hrf
        clear hc hrf
        by_cases hy : y < 5
        · obtain ⟨g2, rfl⟩ : ∃ g, gk = g + 1 := ⟨gk - 1, by omega⟩
          have y1 : (y : Int) < 5 := by omega
          have y0 : (0 : Int) ≤ (y : Int) := Int.natCast_nonneg _
          have wy : IntKind.i64.wrap ((y : Int) + 1) = ((y + 1 : Nat) : Int) := (IntWalk.i64_in _ (by omega)).trans (by omega)
          obtain ⟨q, hq⟩ : ∃ q, q = 5 * y + x := ⟨_, rfl⟩
          have q1 : q < 25 := by have := unhide HX; omega
          have q2 : (q : Int) < 25 := by omega
          have q0 : (0 : Int) ≤ (q : Int) := Int.natCast_nonneg _
          have HAT : Hid (∀ V, Calls Tryd.prog 97 #[.int .i64 (x : Int), .int .i64 (y : Int)] V fun e w' => e = .returned (.int .i64 (q : Int)) ∧ w' = V) := fun V => by rw [hq]; exact rat_nat x y (unhide HX).2 hy V
          have HY : Hid (y + (g2 + 1) = 5 ∧ y < 5 ∧ q = 5 * y + x ∧ q < 25) := ⟨hyg, hy, hq, q1⟩
          clear hyg hy hq q1
          go_wp2_with fail
          obtain ⟨W, hW⟩ : ∃ W, W = wr.drewN 1 := ⟨_, rfl⟩
          have HW : Hid (W = wr.drewN 1) := hW
          have HCW := hide ((unhide HC).keep (below_named HW))
          have HRFW := hide ((unhide HRF).keep (below_named HW))
          have hcC := (unhide HCW).cell (unhide HX).2
          rw [cA_in] at hcC
          have hcF := (unhide HCW).free x
          have hSW : LF w f W := (unhide HRFW).l
          have hfL := fun V (hV : LF w f V) => KAt.cell hV (unhide HY).2.2.2
          clear hW HC HRF
          refine held (S := LF w f) W HW (by kernel_rfl) ?_
          refine wpAnyH_take (i := 0) (v := ?_) rfl (by kernel_rfl) (by kernel_rfl) (by kernel_rfl) (fun _ _ _ h => h) (Or.inl ⟨by kernel_rfl, ?_⟩) (by assumption) ?_
          rotate_left
          · intro Wt hSt
            go_simp
            try with_reducible rfl
          try simp only [List.getElem_toArray, List.getElem_cons_zero, List.getElem_cons_succ, Act.put, List.setIfInBounds_toArray, List.set_cons_zero, List.set_cons_succ]
          refine wpAnyH_take (i := 1) (v := ?_) rfl (by kernel_rfl) (by kernel_rfl) (by kernel_rfl) (fun _ _ _ h => h) (Or.inl ⟨by kernel_rfl, ?_⟩) (by assumption) ?_
          rotate_left
          · intro Wt hSt
            go_simp
            try with_reducible rfl
          try simp only [List.getElem_toArray, List.getElem_cons_zero, List.getElem_cons_succ, Act.put, List.setIfInBounds_toArray, List.set_cons_zero, List.set_cons_succ]
          refine wpAnyH_take (i := 2) (v := ?_) rfl (by kernel_rfl) (by kernel_rfl) (by kernel_rfl) (fun _ _ _ h => h) (Or.inl ⟨by kernel_rfl, ?_⟩) (by assumption) ?_
          rotate_left
          · intro Wt hSt
            go_simp
            try with_reducible rfl
          try simp only [List.getElem_toArray, List.getElem_cons_zero, List.getElem_cons_succ, Act.put, List.setIfInBounds_toArray, List.set_cons_zero, List.set_cons_succ]
          refine wpAnyH_take (i := 4) (v := ?_) rfl (by kernel_rfl) (by kernel_rfl) (by kernel_rfl) (fun _ _ _ h => h) (Or.inl ⟨by kernel_rfl, ?_⟩) (by assumption) ?_
          rotate_left
          · intro Wt hSt
            go_simp
            try with_reducible rfl
          try simp only [List.getElem_toArray, List.getElem_cons_zero, List.getElem_cons_succ, Act.put, List.setIfInBounds_toArray, List.set_cons_zero, List.set_cons_succ]
          refine wpAnyH_take (i := 5) (v := ?_) rfl (by kernel_rfl) (by kernel_rfl) (by kernel_rfl) (fun _ _ _ h => h) (Or.inl ⟨by kernel_rfl, ?_⟩) (by assumption) ?_
          rotate_left
          · intro Wt hSt
            go_simp
            try with_reducible rfl
          try simp only [List.getElem_toArray, List.getElem_cons_zero, List.getElem_cons_succ, Act.put, List.setIfInBounds_toArray, List.set_cons_zero, List.set_cons_succ]
          refine wpAnyH_two 3 6 _ _ rfl rfl (by kernel_rfl) (by kernel_rfl) (by kernel_rfl) ?_ ?_
          · intro K' hK
            go_simp
            refine hK _ _ hSW ?_
            clear hK K'
            try simp only [List.getElem_toArray, List.getElem_cons_zero, List.getElem_cons_succ, Act.put, List.setIfInBounds_toArray, List.set_cons_zero, List.set_cons_succ]
            refine wpAnyH_one 6 _ rfl (by kernel_rfl) (by kernel_rfl) ?_
            intro K' hK
            go_simp
            refine ((unhide HAT) W).mono ?_; rintro e0 V ⟨rfl, rfl⟩
            dsimp only
            refine hK _ _ hSW ?_
            clear hK K'
            try simp only [List.getElem_toArray, List.getElem_cons_zero, List.getElem_cons_succ, Act.put, List.setIfInBounds_toArray, List.set_cons_zero, List.set_cons_succ]
            refine wpAnyH_take (i := 7) (v := ?_) rfl (by kernel_rfl) (by kernel_rfl) (by kernel_rfl) (fun _ _ _ h => h) (Or.inl ⟨by kernel_rfl, ?_⟩) (by assumption) ?_
            rotate_left
            · intro Wt hSt
              go_simp
              try with_reducible rfl
            try simp only [List.getElem_toArray, List.getElem_cons_zero, List.getElem_cons_succ, Act.put, List.setIfInBounds_toArray, List.set_cons_zero, List.set_cons_succ]
            refine wpAnyH_take (i := 8) (v := ?_) rfl (by kernel_rfl) (by kernel_rfl) (by kernel_rfl) (fun _ _ _ h => h) (Or.inl ⟨by kernel_rfl, ?_⟩) (by assumption) ?_
            rotate_left
            · intro Wt hSt
              go_simp
              try with_reducible rfl
            try simp only [List.getElem_toArray, List.getElem_cons_zero, List.getElem_cons_succ, Act.put, List.setIfInBounds_toArray, List.set_cons_zero, List.set_cons_succ]
            refine wpAnyH_take (i := 9) (v := ?_) rfl (by kernel_rfl) (by kernel_rfl) (by kernel_rfl) (fun _ _ _ h => h) (Or.inl ⟨by kernel_rfl, ?_⟩) (by assumption) ?_
            rotate_left
            · intro Wt hSt
              go_simp
              try with_reducible rfl
            try simp only [List.getElem_toArray, List.getElem_cons_zero, List.getElem_cons_succ, Act.put, List.setIfInBounds_toArray, List.set_cons_zero, List.set_cons_succ]
            refine wpAnyH_take (i := 10) (v := ?_) rfl (by kernel_rfl) (by kernel_rfl) (by kernel_rfl) (fun _ _ _ h => h) (Or.inl ⟨by kernel_rfl, ?_⟩) (by assumption) ?_
            rotate_left
            · intro Wt hSt
              go_simp
              try with_reducible rfl
            try simp only [List.getElem_toArray, List.getElem_cons_zero, List.getElem_cons_succ, Act.put, List.setIfInBounds_toArray, List.set_cons_zero, List.set_cons_succ]
            refine wpAnyH_chainOf [11] _ _ _ (by kernel_rfl) (by kernel_rfl) ?_
            simp only [List.filterMap_cons, List.filterMap_nil, List.getElem?_toArray, List.getElem?_cons_zero, List.getElem?_cons_succ]
            refine wpChain_step rfl fun K' hK => ?_
            go_simp
            have hs9 : LF w f (V.setCell ⟨w.heap.size + 3, x, none⟩ (.int .u64 (X (cP f x y) (f q)))) := KAt.grown (hSW) (grown_one V _ _ _) (by omega)
            refine hK _ _ hs9 (wpChain_nil ?_)
            clear hK K' hs9
            go_wp2_with fail
            go_roundg g2
            case measure => omega
            case rel =>
              have h := unhide HY
              have hx := unhide HX
              refine ⟨y + 1, rfl, by omega, ((unhide HCW).set hx.2 (X (cP f x y) (f q))).fn (fun j _ => ?_), (unhide HRFW).grown (Nat.le_refl _) (grown_one V _ _ _)⟩
              rw [← cA_step f x y j, h.2.2.1]
              rfl
          · intro K' hK
            go_simp
            refine ((unhide HAT) W).mono ?_; rintro e0 V ⟨rfl, rfl⟩
            dsimp only
            refine hK _ _ hSW ?_
            clear hK K'
            try simp only [List.getElem_toArray, List.getElem_cons_zero, List.getElem_cons_succ, Act.put, List.setIfInBounds_toArray, List.set_cons_zero, List.set_cons_succ]
            refine wpAnyH_take (i := 7) (v := ?_) rfl (by kernel_rfl) (by kernel_rfl) (by kernel_rfl) (fun _ _ _ h => h) (Or.inl ⟨by kernel_rfl, ?_⟩) (by assumption) ?_
            rotate_left
            · intro Wt hSt
              go_simp
              try with_reducible rfl
            try simp only [List.getElem_toArray, List.getElem_cons_zero, List.getElem_cons_succ, Act.put, List.setIfInBounds_toArray, List.set_cons_zero, List.set_cons_succ]
            refine wpAnyH_take (i := 8) (v := ?_) rfl (by kernel_rfl) (by kernel_rfl) (by kernel_rfl) (fun _ _ _ h => h) (Or.inl ⟨by kernel_rfl, ?_⟩) (by assumption) ?_
            rotate_left
            · intro Wt hSt
              go_simp
              try with_reducible rfl
            try simp only [List.getElem_toArray, List.getElem_cons_zero, List.getElem_cons_succ, Act.put, List.setIfInBounds_toArray, List.set_cons_zero, List.set_cons_succ]
            refine wpAnyH_one 3 _ rfl (by kernel_rfl) (by kernel_rfl) ?_
            intro K' hK
            go_simp
            refine hK _ _ hSW ?_
            clear hK K'
            try simp only [List.getElem_toArray, List.getElem_cons_zero, List.getElem_cons_succ, Act.put, List.setIfInBounds_toArray, List.set_cons_zero, List.set_cons_succ]
            refine wpAnyH_take (i := 9) (v := ?_) rfl (by kernel_rfl) (by kernel_rfl) (by kernel_rfl) (fun _ _ _ h => h) (Or.inl ⟨by kernel_rfl, ?_⟩) (by assumption) ?_
            rotate_left
            · intro Wt hSt
              go_simp
              try with_reducible rfl
            try simp only [List.getElem_toArray, List.getElem_cons_zero, List.getElem_cons_succ, Act.put, List.setIfInBounds_toArray, List.set_cons_zero, List.set_cons_succ]
            refine wpAnyH_take (i := 10) (v := ?_) rfl (by kernel_rfl) (by kernel_rfl) (by kernel_rfl) (fun _ _ _ h => h) (Or.inl ⟨by kernel_rfl, ?_⟩) (by assumption) ?_
            rotate_left
            · intro Wt hSt
              go_simp
              try with_reducible rfl
            try simp only [List.getElem_toArray, List.getElem_cons_zero, List.getElem_cons_succ, Act.put, List.setIfInBounds_toArray, List.set_cons_zero, List.set_cons_succ]
            refine wpAnyH_chainOf [11] _ _ _ (by kernel_rfl) (by kernel_rfl) ?_
            simp only [List.filterMap_cons, List.filterMap_nil, List.getElem?_toArray, List.getElem?_cons_zero, List.getElem?_cons_succ]
            refine wpChain_step rfl fun K' hK => ?_
            go_simp
            have hs9 : LF w f (V.setCell ⟨w.heap.size + 3, x, none⟩ (.int .u64 (X (cP f x y) (f q)))) := KAt.grown (hSW) (grown_one V _ _ _) (by omega)
            refine hK _ _ hs9 (wpChain_nil ?_)
            clear hK K' hs9
            go_wp2_with fail
            go_roundg g2
            case measure => omega
            case rel =>
              have h := unhide HY
              have hx := unhide HX
              refine ⟨y + 1, rfl, by omega, ((unhide HCW).set hx.2 (X (cP f x y) (f q))).fn (fun j _ => ?_), (unhide HRFW).grown (Nat.le_refl _) (grown_one V _ _ _)⟩
              rw [← cA_step f x y j, h.2.2.1]
              rfl
        · have y1 : ¬ (y : Int) < 5 := by omega
          obtain rfl : y = 5 := by omega
          clear hyg hy
          go_wp2_with fail
          go_roundg g
          case measure => omega
          case rel => exact ⟨x + 1, rfl, by have := unhide HX; omega, (unhide HC).fn (fun q _ => cA_next f x q), unhide HRF⟩
    · have x1 : ¬ (x : Int) < 5 := by omega
      obtain rfl : x = 5 := by omega
      have HCE := hide ((unhide HC).fn (cA_end f))
      clear hxg hx HC
      go_upto_region 9 with fail
      have HRG : Hid (RG w f wr) := ⟨unhide HRF, unhide HCE⟩
      clear HRF HCE
      refine wp_region_lit ?_
      refine wpList_build0 rfl 110 rfl (kv .u64 25 fun _ => 0) (buildS _) ?_
      obtain ⟨cy, hcy⟩ : ∃ cs, cs = (kc .u64 25 fun _ => 0).toArray := ⟨_, rfl⟩
      rw [show kv .u64 25 (fun _ => 0) = .agg cy by rw [hcy]]
      have HCY := hide hcy
      clear hcy
      refine wpList_plain rfl fun Kt hKt => ?_
      go_simp
      refine hKt _ _ ?_
      clear hKt Kt
      generalize hX6 : wr.alloc _ = W6
      have hB6 : Below wr.heap.size wr W6 := hX6 ▸ (Below.refl _ _).alloc (Nat.le_refl _) _
      have HN6 := hide (newK wr W6 (k := .u64) (n := 25) (t := 110) (f := fun _ => 0) (by rw [← hX6]; rfl))
      have HRG6 := hide ((unhide HRG).keep hB6)
      obtain ⟨N, hN⟩ : ∃ N, N = wr.heap.size := ⟨_, rfl⟩
      have HZ : Hid (w.heap.size + 4 ≤ N) := hN ▸ (unhide HRG).c.lt
      rw [← hN] at HN6 ⊢
      clear hX6 hB6 hN HRG
      refine wpList_kstore rfl 110 (.tmp 10) (.tmp 37) rfl N rfl .u64 25 (fun _ => 0) (show Value.agg cy = _ by rw [unhide HCY]) infoS _ _ (unhide HN6) ?_
      intro W7 HK7 HG7
      have HRG7 := hide ((unhide HRG6).grown (unhide HZ) (unhide HG7))
      clear HG7 HN6 HRG6
      try simp only [List.getElem_toArray, List.getElem_cons_zero, List.getElem_cons_succ, Act.put, List.setIfInBounds_toArray, List.set_cons_zero, List.set_cons_succ]
      go_wp2_with fail
      go_loopg [11] 5 (fun g y11 wx => ∃ x : Nat, y11 = .int .i64 (x : Int) ∧ x + g = 5 ∧ KAt .u64 25 wx N 110 (bR f rtN (5 * x)) ∧ RG w f wx)
      case atStart => exact ⟨0, rfl, by omega, (unhide HK7).fn (fun j _ => rfl), unhide HRG7⟩
      case round =>
        clear HK7 HRG7
        obtain ⟨x, rfl, hxg, hk, hrg⟩ := hrel
        have HK := hide hk; have HRG := hide hrg
        clear hk hrg
        by_cases hx : x < 5
        · obtain ⟨g, rfl⟩ : ∃ g, gk = g + 1 := ⟨gk - 1, by omega⟩
          have x1 : (x : Int) < 5 := by omega
          have x0 : (0 : Int) ≤ (x : Int) := Int.natCast_nonneg _
          have wx : IntKind.i64.wrap ((x : Int) + 1) = ((x + 1 : Nat) : Int) := (IntWalk.i64_in _ (by omega)).trans (by omega)
          have HX : Hid (x + (g + 1) = 5 ∧ x < 5) := ⟨hxg, hx⟩
          clear hxg hx
          go_wp2_with fail
          go_loopg [12] 5 (fun g' y12 wx => ∃ y : Nat, y12 = .int .i64 (y : Int) ∧ y + g' = 5 ∧ KAt .u64 25 wx N 110 (bR f rtN (5 * x + y)) ∧ RG w f wx)
          case atStart => exact ⟨0, rfl, by omega, unhide HK, unhide HRG⟩
          case round =>
            clear HK HRG
            obtain ⟨y, rfl, hyg, hk, hrg⟩ := hrel
            have HK := hide hk; have HRG := hide hrg
            clear hk hrg
            by_cases hy : y < 5
            · obtain ⟨g2, rfl⟩ : ∃ g, gk = g + 1 := ⟨gk - 1, by omega⟩
              have y1 : (y : Int) < 5 := lt_int hy
              have y0 : (0 : Int) ≤ (y : Int) := Int.natCast_nonneg _
              have wy : IntKind.i64.wrap ((y : Int) + 1) = ((y + 1 : Nat) : Int) := (IntWalk.i64_in _ (by omega)).trans (by omega)
              clear wx
              obtain ⟨q, x4, xn, s2, s3, s5, pp, a4, a1, zz, nb⟩ := nb_mk x y (unhide HX).2 hy
              obtain ⟨hr64, hrt⟩ := rtN_lt q nb.q1
              have HY : Hid (y + (g2 + 1) = 5 ∧ y < 5 ∧ NB x y q x4 xn s2 s3 s5 pp a4 a1 zz ∧ rtN q < 64 ∧ rT 24 q = (rtN q : Int)) := ⟨hyg, hy, nb, hr64, hrt⟩
              have wa4 := nb.wa4
              have ta4 := nb.ta4
              have wa1 := nb.wa1
              have ta1 := nb.ta1
              have ws2 := nb.ws2
              have ws3 := nb.ws3
              have ws5 := nb.ws5
              have wzz := nb.wzz
              have q2 : (q : Int) < 25 := lt_int nb.q1
              have q0 : (0 : Int) ≤ (q : Int) := Int.natCast_nonneg _
              have c40 : (0 : Int) ≤ (x4 : Int) := Int.natCast_nonneg _
              have c41 : (x4 : Int) < 5 := lt_int nb.c41
              have c10 : (0 : Int) ≤ (xn : Int) := Int.natCast_nonneg _
              have c11 : (xn : Int) < 5 := lt_int nb.c11
              have p1 : (pp : Int) < 25 := lt_int nb.p1
              have p0 : (0 : Int) ≤ (pp : Int) := Int.natCast_nonneg _
              have HAT : Hid (∀ V, Calls Tryd.prog 97 #[.int .i64 (x : Int), .int .i64 (y : Int)] V fun e w' => e = .returned (.int .i64 (q : Int)) ∧ w' = V) := fun V => by rw [nb.eq_]; exact rat_nat x y (unhide HX).2 hy V
              have HATP : Hid (∀ V, Calls Tryd.prog 97 #[.int .i64 (y : Int), .int .i64 zz] V fun e w' => e = .returned (.int .i64 (pp : Int)) ∧ w' = V) := fun V => by
                have := rat_any (y : Int) zz ⟨by omega, by omega⟩ ⟨nb.z0, nb.z1⟩ V
                rw [nb.ez] at this
                exact this
              clear hyg hy nb hr64 hrt
              go_wp2_with fail
              obtain ⟨W, hW⟩ : ∃ W, W = wr.drewN 1 := ⟨_, rfl⟩
              have HW : Hid (W = wr.drewN 1) := hW
              have HKW := hide ((unhide HK).keep (below_named HW))
              have hSW : RG w f W := (unhide HRG).keep (below_named HW)
              have hfL := fun V (hV : RG w f V) => KAt.cell hV.f_.l (unhide HY).2.2.1.q1
              have hf4 := fun V (hV : RG w f V) => KAt.cell hV.c (unhide HY).2.2.1.c41
              have hf1 := fun V (hV : RG w f V) => KAt.cell hV.c (unhide HY).2.2.1.c11
              clear hW HK HRG
              refine held (S := RG w f) W HW (by kernel_rfl) ?_
              refine wpAnyH_take (i := 0) (v := ?_) rfl (by kernel_rfl) (by kernel_rfl) (by kernel_rfl) (fun _ _ _ h => h) (Or.inl ⟨by kernel_rfl, ?_⟩) (by assumption) ?_
              rotate_left
              · intro Wt hSt
                go_simp
                try with_reducible rfl
              try simp only [List.getElem_toArray, List.getElem_cons_zero, List.getElem_cons_succ, Act.put, List.setIfInBounds_toArray, List.set_cons_zero, List.set_cons_succ]
              refine wpAnyH_take (i := 1) (v := ?_) rfl (by kernel_rfl) (by kernel_rfl) (by kernel_rfl) (fun _ _ _ h => h) (Or.inl ⟨by kernel_rfl, ?_⟩) (by assumption) ?_
              rotate_left
              · intro Wt hSt
                go_simp
                try with_reducible rfl
              try simp only [List.getElem_toArray, List.getElem_cons_zero, List.getElem_cons_succ, Act.put, List.setIfInBounds_toArray, List.set_cons_zero, List.set_cons_succ]
              refine wpAnyH_take (i := 5) (v := ?_) rfl (by kernel_rfl) (by kernel_rfl) (by kernel_rfl) (fun _ _ _ h => h) (Or.inl ⟨by kernel_rfl, ?_⟩) (by assumption) ?_
              rotate_left
              · intro Wt hSt
                go_simp
                try with_reducible rfl
              try simp only [List.getElem_toArray, List.getElem_cons_zero, List.getElem_cons_succ, Act.put, List.setIfInBounds_toArray, List.set_cons_zero, List.set_cons_succ]
              refine wpAnyH_take (i := 6) (v := ?_) rfl (by kernel_rfl) (by kernel_rfl) (by kernel_rfl) (fun _ _ _ h => h) (Or.inl ⟨by kernel_rfl, ?_⟩) (by assumption) ?_
              rotate_left
              · intro Wt hSt
                go_simp
                try with_reducible rfl
              try simp only [List.getElem_toArray, List.getElem_cons_zero, List.getElem_cons_succ, Act.put, List.setIfInBounds_toArray, List.set_cons_zero, List.set_cons_succ]
              refine wpAnyH_take (i := 7) (v := ?_) rfl (by kernel_rfl) (by kernel_rfl) (by kernel_rfl) (fun _ _ _ h => h) (Or.inl ⟨by kernel_rfl, ?_⟩) (by assumption) ?_
              rotate_left
              · intro Wt hSt
                go_simp
                try with_reducible rfl
              try simp only [List.getElem_toArray, List.getElem_cons_zero, List.getElem_cons_succ, Act.put, List.setIfInBounds_toArray, List.set_cons_zero, List.set_cons_succ]
              refine wpAnyH_take (i := 8) (v := ?_) rfl (by kernel_rfl) (by kernel_rfl) (by kernel_rfl) (fun _ _ _ h => h) (Or.inl ⟨by kernel_rfl, ?_⟩) (by assumption) ?_
              rotate_left
              · intro Wt hSt
                go_simp
                try with_reducible rfl
              try simp only [List.getElem_toArray, List.getElem_cons_zero, List.getElem_cons_succ, Act.put, List.setIfInBounds_toArray, List.set_cons_zero, List.set_cons_succ]
              refine wpAnyH_take (i := 9) (v := ?_) rfl (by kernel_rfl) (by kernel_rfl) (by kernel_rfl) (fun _ _ _ h => h) (Or.inl ⟨by kernel_rfl, ?_⟩) (by assumption) ?_
              rotate_left
              · intro Wt hSt
                go_simp
                try with_reducible rfl
              try simp only [List.getElem_toArray, List.getElem_cons_zero, List.getElem_cons_succ, Act.put, List.setIfInBounds_toArray, List.set_cons_zero, List.set_cons_succ]
              refine wpAnyH_take (i := 11) (v := ?_) rfl (by kernel_rfl) (by kernel_rfl) (by kernel_rfl) (fun _ _ _ h => h) (Or.inl ⟨by kernel_rfl, ?_⟩) (by assumption) ?_
              rotate_left
              · intro Wt hSt
                go_simp
                try with_reducible rfl
              try simp only [List.getElem_toArray, List.getElem_cons_zero, List.getElem_cons_succ, Act.put, List.setIfInBounds_toArray, List.set_cons_zero, List.set_cons_succ]
              refine wpAnyH_take (i := 12) (v := ?_) rfl (by kernel_rfl) (by kernel_rfl) (by kernel_rfl) (fun _ _ _ h => h) (Or.inl ⟨by kernel_rfl, ?_⟩) (by assumption) ?_
              rotate_left
              · intro Wt hSt
                go_simp
                try with_reducible rfl
              try simp only [List.getElem_toArray, List.getElem_cons_zero, List.getElem_cons_succ, Act.put, List.setIfInBounds_toArray, List.set_cons_zero, List.set_cons_succ]
              refine wpAnyH_take (i := 13) (v := ?_) rfl (by kernel_rfl) (by kernel_rfl) (by kernel_rfl) (fun _ _ _ h => h) (Or.inl ⟨by kernel_rfl, ?_⟩) (by assumption) ?_
              rotate_left
              · intro Wt hSt
                go_simp
                try with_reducible rfl
              try simp only [List.getElem_toArray, List.getElem_cons_zero, List.getElem_cons_succ, Act.put, List.setIfInBounds_toArray, List.set_cons_zero, List.set_cons_succ]
              refine wpAnyH_take (i := 14) (v := ?_) rfl (by kernel_rfl) (by kernel_rfl) (by kernel_rfl) (fun _ _ _ h => h) (Or.inl ⟨by kernel_rfl, ?_⟩) (by assumption) ?_
              rotate_left
              · intro Wt hSt
                go_simp
                try with_reducible rfl
              try simp only [List.getElem_toArray, List.getElem_cons_zero, List.getElem_cons_succ, Act.put, List.setIfInBounds_toArray, List.set_cons_zero, List.set_cons_succ]
              refine wpAnyH_take (i := 15) (v := ?_) rfl (by kernel_rfl) (by kernel_rfl) (by kernel_rfl) (fun _ _ _ h => h) (Or.inl ⟨by kernel_rfl, ?_⟩) (by assumption) ?_
              rotate_left
              · intro Wt hSt
                go_simp
                try with_reducible rfl
              try simp only [List.getElem_toArray, List.getElem_cons_zero, List.getElem_cons_succ, Act.put, List.setIfInBounds_toArray, List.set_cons_zero, List.set_cons_succ]
              refine wpAnyH_one 2 _ rfl (by kernel_rfl) (by kernel_rfl) ?_
              intro K' hK
              go_simp
              refine ((unhide HAT) W).mono ?_; rintro e0 V ⟨rfl, rfl⟩
              dsimp only
              refine hK _ _ hSW ?_
              clear hK K'
              try simp only [List.getElem_toArray, List.getElem_cons_zero, List.getElem_cons_succ, Act.put, List.setIfInBounds_toArray, List.set_cons_zero, List.set_cons_succ]
              refine wpAnyH_take (i := 3) (v := ?_) rfl (by kernel_rfl) (by kernel_rfl) (by kernel_rfl) (fun _ _ _ h => h) (Or.inl ⟨by kernel_rfl, ?_⟩) (by assumption) ?_
              rotate_left
              · intro Wt hSt
                go_simp
                try with_reducible rfl
              try simp only [List.getElem_toArray, List.getElem_cons_zero, List.getElem_cons_succ, Act.put, List.setIfInBounds_toArray, List.set_cons_zero, List.set_cons_succ]
              refine wpAnyH_take (i := 4) (v := ?_) rfl (by kernel_rfl) (by kernel_rfl) (by kernel_rfl) (fun _ _ _ h => h) (Or.inl ⟨by kernel_rfl, ?_⟩) (by assumption) ?_
              rotate_left
              · intro Wt hSt
                go_simp
                try with_reducible rfl
              try simp only [List.getElem_toArray, List.getElem_cons_zero, List.getElem_cons_succ, Act.put, List.setIfInBounds_toArray, List.set_cons_zero, List.set_cons_succ]
              refine wpAnyH_take (i := 10) (v := ?_) rfl (by kernel_rfl) (by kernel_rfl) (by kernel_rfl) (fun _ _ _ h => h) (Or.inl ⟨by kernel_rfl, ?_⟩) (by assumption) ?_
              rotate_left
              · intro Wt hSt
                go_simp
                try with_reducible rfl
              try simp only [List.getElem_toArray, List.getElem_cons_zero, List.getElem_cons_succ, Act.put, List.setIfInBounds_toArray, List.set_cons_zero, List.set_cons_succ]
              refine wpAnyH_one 16 _ rfl (by kernel_rfl) (by kernel_rfl) ?_
              intro K' hK
              go_simp
              refine (rrol_one _ V).mono ?_; rintro e0 V2 ⟨rfl, hb2⟩
              have hS2 := hSW.keep hb2
              have hK2 := (unhide HKW).keep hb2
              dsimp only
              refine hK _ _ hS2 ?_
              clear hK K'
              try simp only [List.getElem_toArray, List.getElem_cons_zero, List.getElem_cons_succ, Act.put, List.setIfInBounds_toArray, List.set_cons_zero, List.set_cons_succ]
              refine wpAnyH_take (i := 17) (v := ?_) rfl (by kernel_rfl) (by kernel_rfl) (by kernel_rfl) (fun _ _ _ h => h) (Or.inl ⟨by kernel_rfl, ?_⟩) (by assumption) ?_
              rotate_left
              · intro Wt hSt
                go_simp
                try with_reducible rfl
              try simp only [List.getElem_toArray, List.getElem_cons_zero, List.getElem_cons_succ, Act.put, List.setIfInBounds_toArray, List.set_cons_zero, List.set_cons_succ]
              refine wpAnyH_take (i := 18) (v := ?_) rfl (by kernel_rfl) (by kernel_rfl) (by kernel_rfl) (fun _ _ _ h => h) (Or.inl ⟨by kernel_rfl, ?_⟩) (by assumption) ?_
              rotate_left
              · intro Wt hSt
                go_simp
                try with_reducible rfl
              try simp only [List.getElem_toArray, List.getElem_cons_zero, List.getElem_cons_succ, Act.put, List.setIfInBounds_toArray, List.set_cons_zero, List.set_cons_succ]
              refine wpAnyH_chainOf [] _ _ _ (by kernel_rfl) (by kernel_rfl) ?_
              refine wpChain_nil ?_
              obtain ⟨vv, hvv⟩ : ∃ z, z = vR f x y := ⟨_, rfl⟩
              have evv : bits .xor .u64 (bits .xor .u64 (f q) (cR f x4)) (rolR (cR f xn) 1) = vv := by rw [hvv, (unhide HY).2.2.1.eq_, (unhide HY).2.2.1.e4, (unhide HY).2.2.1.en]; rfl
              rw [evv]
              have HVV := hide hvv
              have HS2 := hide hS2; have HK2 := hide hK2
              have hcR := hS2.f_.r.cell (unhide HY).2.2.1.q1
              rw [(unhide HY).2.2.2.2] at hcR
              clear evv hvv hS2 hK2 hSW hfL hf4 hf1 hb2
              go_wp2_with fail
              refine ((unhide HATP) V2).mono ?_; rintro e0 V3 ⟨rfl, rfl⟩
              go_wp2_with fail
              refine ((unhide HAT) V3).mono ?_; rintro e0 V4 ⟨rfl, rfl⟩
              go_wp2_with fail
              refine (rrol_any vv (rtN q) (unhide HY).2.2.2.1 V4).mono ?_; rintro e0 V5 ⟨rfl, hb5⟩
              have HS5 := hide ((unhide HS2).keep hb5)
              have HK5 := hide ((unhide HK2).keep hb5)
              have hcB := (unhide HK5).cell (unhide HY).2.2.1.p1
              have hcBf := (unhide HK5).free pp
              clear hb5 hcR HS2 HK2
              go_wp2_with fail
              go_roundg g2
              case measure => omega
              case rel =>
                have h := unhide HY
                refine ⟨y + 1, rfl, by omega, ?_, (unhide HS5).grown (unhide HZ) (grown_one V5 _ _ _)⟩
                have hk := (unhide HK5).set h.2.2.1.p1 (rolR vv (rtN q))
                rw [show 5 * x + (y + 1) = 5 * x + y + 1 by omega, ← bR_step f x y h.2.1]
                rw [unhide HVV, h.2.2.1.ep, h.2.2.1.eq_] at hk
                rw [unhide HVV, h.2.2.1.ep, h.2.2.1.eq_]
                exact hk
            · have y1 : ¬ (y : Int) < 5 := by omega
              obtain rfl : y = 5 := by omega
              clear hyg hy
              go_wp2_with fail
              go_roundg g
              case measure => omega
              case rel => exact ⟨x + 1, rfl, by have := unhide HX; omega, by rw [show 5 * (x + 1) = 5 * x + 5 by omega]; exact unhide HK, unhide HRG⟩
        · have x1 : ¬ (x : Int) < 5 := by omega
          obtain rfl : x = 5 := by omega
          clear hxg hx
          go_upto_region 18 with fail
          have HRH := hide (RH.mk (unhide HRG).f_ (show BF N (bR f rtN 25) wr from unhide HK))
          obtain ⟨G, hG⟩ : ∃ G, G = bR f rtN 25 := ⟨_, rfl⟩
          have HGG := hide hG
          rw [← hG] at HRH
          clear HRG HK hG
          refine wp_region_lit ?_
          refine wpList_build0 rfl 110 rfl (kv .u64 25 fun _ => 0) (buildS _) ?_
          obtain ⟨cx, hcx⟩ : ∃ cs, cs = (kc .u64 25 fun _ => 0).toArray := ⟨_, rfl⟩
          rw [show kv .u64 25 (fun _ => 0) = .agg cx by rw [hcx]]
          have HCX := hide hcx
          clear hcx
          refine wpList_plain rfl fun Kt hKt => ?_
          go_simp
          refine hKt _ _ ?_
          clear hKt Kt
          generalize hX8 : wr.alloc _ = W8
          have hB8 : Below wr.heap.size wr W8 := hX8 ▸ (Below.refl _ _).alloc (Nat.le_refl _) _
          have HN8 := hide (newK wr W8 (k := .u64) (n := 25) (t := 110) (f := fun _ => 0) (by rw [← hX8]; rfl))
          have HRH8 := hide ((unhide HRH).keep hB8)
          obtain ⟨M, hM⟩ : ∃ M, M = wr.heap.size := ⟨_, rfl⟩
          have HM : Hid (w.heap.size + 4 ≤ N ∧ N < M) := ⟨unhide HZ, hM ▸ KAt.lt (unhide HRH).k⟩
          rw [← hM] at HN8 ⊢
          clear hX8 hB8 hM HRH
          refine wpList_kstore rfl 110 (.tmp 14) (.tmp 80) rfl M rfl .u64 25 (fun _ => 0) (show Value.agg cx = _ by rw [unhide HCX]) infoS _ _ (unhide HN8) ?_
          intro W9 HK9 HG9
          have HRH9 := hide ((unhide HRH8).grown (unhide HM).1 (unhide HM).2 (unhide HG9))
          clear HG9 HN8 HRH8
          try simp only [List.getElem_toArray, List.getElem_cons_zero, List.getElem_cons_succ, Act.put, List.setIfInBounds_toArray, List.set_cons_zero, List.set_cons_succ]
          go_wp2_with fail
          go_loopg [15] 5 (fun g y15 wx => ∃ x : Nat, y15 = .int .i64 (x : Int) ∧ x + g = 5 ∧ KAt .u64 25 wx M 110 (oR G (5 * x)) ∧ RH w f N G wx)
          case atStart => exact ⟨0, rfl, by omega, (unhide HK9).fn (fun j _ => rfl), unhide HRH9⟩
          case round =>
            clear HK9 HRH9
            obtain ⟨x, rfl, hxg, hk, hrh⟩ := hrel
            have HK := hide hk; have HRH := hide hrh
            clear hk hrh
            by_cases hx : x < 5
            · obtain ⟨g, rfl⟩ : ∃ g, gk = g + 1 := ⟨gk - 1, by omega⟩
              have x1 : (x : Int) < 5 := lt_int hx
              have x0 : (0 : Int) ≤ (x : Int) := Int.natCast_nonneg _
              have wx : IntKind.i64.wrap ((x : Int) + 1) = ((x + 1 : Nat) : Int) := (IntWalk.i64_in _ (by omega)).trans (by omega)
              have HX : Hid (x + (g + 1) = 5 ∧ x < 5) := ⟨hxg, hx⟩
              clear hxg hx
              go_wp2_with fail
              go_loopg [16] 5 (fun g' y16 wx => ∃ y : Nat, y16 = .int .i64 (y : Int) ∧ y + g' = 5 ∧ KAt .u64 25 wx M 110 (oR G (5 * x + y)) ∧ RH w f N G wx)
              case atStart => exact ⟨0, rfl, by omega, unhide HK, unhide HRH⟩
              case round =>
                clear HK HRH
                obtain ⟨y, rfl, hyg, hk, hrh⟩ := hrel
                have HK := hide hk; have HRH := hide hrh
                clear hk hrh
                by_cases hy : y < 5
                · obtain ⟨g2, rfl⟩ : ∃ g, gk = g + 1 := ⟨gk - 1, by omega⟩
                  clear wx
                  have y1 : (y : Int) < 5 := lt_int hy
                  have y0 : (0 : Int) ≤ (y : Int) := Int.natCast_nonneg _
                  have wy : IntKind.i64.wrap ((y : Int) + 1) = ((y + 1 : Nat) : Int) := (IntWalk.i64_in _ (by omega)).trans (by omega)
                  obtain ⟨q, p1, p2, a1, a2, nc⟩ := nc_mk x y (unhide HX).2 hy
                  have HY : Hid (y + (g2 + 1) = 5 ∧ y < 5 ∧ NC x y q p1 p2 a1 a2) := ⟨hyg, hy, nc⟩
                  have wa1 := nc.wa1
                  have wa2 := nc.wa2
                  have q2 : (q : Int) < 25 := lt_int nc.q1
                  have q0 : (0 : Int) ≤ (q : Int) := Int.natCast_nonneg _
                  have l1 : (p1 : Int) < 25 := lt_int nc.l1
                  have l10 : (0 : Int) ≤ (p1 : Int) := Int.natCast_nonneg _
                  have l2 : (p2 : Int) < 25 := lt_int nc.l2
                  have l20 : (0 : Int) ≤ (p2 : Int) := Int.natCast_nonneg _
                  have HAT : Hid (∀ V, Calls Tryd.prog 97 #[.int .i64 (x : Int), .int .i64 (y : Int)] V fun e w' => e = .returned (.int .i64 (q : Int)) ∧ w' = V) := fun V => by rw [nc.eq_]; exact rat_nat x y (unhide HX).2 hy V
                  have HAT1 : Hid (∀ V, Calls Tryd.prog 97 #[.int .i64 (a1 : Int), .int .i64 (y : Int)] V fun e w' => e = .returned (.int .i64 (p1 : Int)) ∧ w' = V) := fun V => by
                    have hz := nc.z1
                    have := rat_any (a1 : Int) (y : Int) ⟨by omega, by omega⟩ ⟨by omega, by omega⟩ V
                    rw [nc.e1] at this
                    exact this
                  have HAT2 : Hid (∀ V, Calls Tryd.prog 97 #[.int .i64 (a2 : Int), .int .i64 (y : Int)] V fun e w' => e = .returned (.int .i64 (p2 : Int)) ∧ w' = V) := fun V => by
                    have hz := nc.z2
                    have := rat_any (a2 : Int) (y : Int) ⟨by omega, by omega⟩ ⟨by omega, by omega⟩ V
                    rw [nc.e2] at this
                    exact this
                  clear hyg hy nc
                  go_wp2_with fail
                  obtain ⟨W, hW⟩ : ∃ W, W = wr.drewN 1 := ⟨_, rfl⟩
                  have HW : Hid (W = wr.drewN 1) := hW
                  have HKW := hide ((unhide HK).keep (below_named HW))
                  have HRHW := hide ((unhide HRH).keep (below_named HW))
                  have hSW : BF N G W := (unhide HRHW).k
                  have hf0 := fun V (hV : BF N G V) => KAt.cell hV (unhide HY).2.2.q1
                  have hf1 := fun V (hV : BF N G V) => KAt.cell hV (unhide HY).2.2.l1
                  have hf2 := fun V (hV : BF N G V) => KAt.cell hV (unhide HY).2.2.l2
                  have hcC := (unhide HKW).cell (unhide HY).2.2.q1
                  have hcF := (unhide HKW).free q
                  clear hW HK HRH
                  refine held (S := BF N G) W HW (by kernel_rfl) ?_
                  refine wpAnyH_take (i := 0) (v := ?_) rfl (by kernel_rfl) (by kernel_rfl) (by kernel_rfl) (fun _ _ _ h => h) (Or.inl ⟨by kernel_rfl, ?_⟩) (by assumption) ?_
                  rotate_left
                  · intro Wt hSt
                    go_simp
                    try with_reducible rfl
                  try simp only [List.getElem_toArray, List.getElem_cons_zero, List.getElem_cons_succ, Act.put, List.setIfInBounds_toArray, List.set_cons_zero, List.set_cons_succ]
                  refine wpAnyH_take (i := 1) (v := ?_) rfl (by kernel_rfl) (by kernel_rfl) (by kernel_rfl) (fun _ _ _ h => h) (Or.inl ⟨by kernel_rfl, ?_⟩) (by assumption) ?_
                  rotate_left
                  · intro Wt hSt
                    go_simp
                    try with_reducible rfl
                  try simp only [List.getElem_toArray, List.getElem_cons_zero, List.getElem_cons_succ, Act.put, List.setIfInBounds_toArray, List.set_cons_zero, List.set_cons_succ]
                  refine wpAnyH_take (i := 3) (v := ?_) rfl (by kernel_rfl) (by kernel_rfl) (by kernel_rfl) (fun _ _ _ h => h) (Or.inl ⟨by kernel_rfl, ?_⟩) (by assumption) ?_
                  rotate_left
                  · intro Wt hSt
                    go_simp
                    try with_reducible rfl
                  try simp only [List.getElem_toArray, List.getElem_cons_zero, List.getElem_cons_succ, Act.put, List.setIfInBounds_toArray, List.set_cons_zero, List.set_cons_succ]
                  refine wpAnyH_take (i := 4) (v := ?_) rfl (by kernel_rfl) (by kernel_rfl) (by kernel_rfl) (fun _ _ _ h => h) (Or.inl ⟨by kernel_rfl, ?_⟩) (by assumption) ?_
                  rotate_left
                  · intro Wt hSt
                    go_simp
                    try with_reducible rfl
                  try simp only [List.getElem_toArray, List.getElem_cons_zero, List.getElem_cons_succ, Act.put, List.setIfInBounds_toArray, List.set_cons_zero, List.set_cons_succ]
                  refine wpAnyH_take (i := 8) (v := ?_) rfl (by kernel_rfl) (by kernel_rfl) (by kernel_rfl) (fun _ _ _ h => h) (Or.inl ⟨by kernel_rfl, ?_⟩) (by assumption) ?_
                  rotate_left
                  · intro Wt hSt
                    go_simp
                    try with_reducible rfl
                  try simp only [List.getElem_toArray, List.getElem_cons_zero, List.getElem_cons_succ, Act.put, List.setIfInBounds_toArray, List.set_cons_zero, List.set_cons_succ]
                  refine wpAnyH_take (i := 9) (v := ?_) rfl (by kernel_rfl) (by kernel_rfl) (by kernel_rfl) (fun _ _ _ h => h) (Or.inl ⟨by kernel_rfl, ?_⟩) (by assumption) ?_
                  rotate_left
                  · intro Wt hSt
                    go_simp
                    try with_reducible rfl
                  try simp only [List.getElem_toArray, List.getElem_cons_zero, List.getElem_cons_succ, Act.put, List.setIfInBounds_toArray, List.set_cons_zero, List.set_cons_succ]
                  refine wpAnyH_take (i := 10) (v := ?_) rfl (by kernel_rfl) (by kernel_rfl) (by kernel_rfl) (fun _ _ _ h => h) (Or.inl ⟨by kernel_rfl, ?_⟩) (by assumption) ?_
                  rotate_left
                  · intro Wt hSt
                    go_simp
                    try with_reducible rfl
                  try simp only [List.getElem_toArray, List.getElem_cons_zero, List.getElem_cons_succ, Act.put, List.setIfInBounds_toArray, List.set_cons_zero, List.set_cons_succ]
                  refine wpAnyH_take (i := 15) (v := ?_) rfl (by kernel_rfl) (by kernel_rfl) (by kernel_rfl) (fun _ _ _ h => h) (Or.inl ⟨by kernel_rfl, ?_⟩) (by assumption) ?_
                  rotate_left
                  · intro Wt hSt
                    go_simp
                    try with_reducible rfl
                  try simp only [List.getElem_toArray, List.getElem_cons_zero, List.getElem_cons_succ, Act.put, List.setIfInBounds_toArray, List.set_cons_zero, List.set_cons_succ]
                  refine wpAnyH_take (i := 16) (v := ?_) rfl (by kernel_rfl) (by kernel_rfl) (by kernel_rfl) (fun _ _ _ h => h) (Or.inl ⟨by kernel_rfl, ?_⟩) (by assumption) ?_
                  rotate_left
                  · intro Wt hSt
                    go_simp
                    try with_reducible rfl
                  try simp only [List.getElem_toArray, List.getElem_cons_zero, List.getElem_cons_succ, Act.put, List.setIfInBounds_toArray, List.set_cons_zero, List.set_cons_succ]
                  refine wpAnyH_take (i := 17) (v := ?_) rfl (by kernel_rfl) (by kernel_rfl) (by kernel_rfl) (fun _ _ _ h => h) (Or.inl ⟨by kernel_rfl, ?_⟩) (by assumption) ?_
                  rotate_left
                  · intro Wt hSt
                    go_simp
                    try with_reducible rfl
                  try simp only [List.getElem_toArray, List.getElem_cons_zero, List.getElem_cons_succ, Act.put, List.setIfInBounds_toArray, List.set_cons_zero, List.set_cons_succ]
                  refine wpAnyH_one 2 _ rfl (by kernel_rfl) (by kernel_rfl) ?_
                  intro K' hK
                  go_simp
                  refine ((unhide HAT) W).mono ?_; rintro e0 V ⟨rfl, rfl⟩
                  dsimp only
                  refine hK _ _ hSW ?_
                  clear hK K'
                  try simp only [List.getElem_toArray, List.getElem_cons_zero, List.getElem_cons_succ, Act.put, List.setIfInBounds_toArray, List.set_cons_zero, List.set_cons_succ]
                  refine wpAnyH_one 5 _ rfl (by kernel_rfl) (by kernel_rfl) ?_
                  intro K' hK
                  go_simp
                  refine ((unhide HAT) V).mono ?_; rintro e0 V2 ⟨rfl, rfl⟩
                  dsimp only
                  refine hK _ _ hSW ?_
                  clear hK K'
                  try simp only [List.getElem_toArray, List.getElem_cons_zero, List.getElem_cons_succ, Act.put, List.setIfInBounds_toArray, List.set_cons_zero, List.set_cons_succ]
                  refine wpAnyH_take (i := 6) (v := ?_) rfl (by kernel_rfl) (by kernel_rfl) (by kernel_rfl) (fun _ _ _ h => h) (Or.inl ⟨by kernel_rfl, ?_⟩) (by assumption) ?_
                  rotate_left
                  · intro Wt hSt
                    go_simp
                    try with_reducible rfl
                  try simp only [List.getElem_toArray, List.getElem_cons_zero, List.getElem_cons_succ, Act.put, List.setIfInBounds_toArray, List.set_cons_zero, List.set_cons_succ]
                  refine wpAnyH_take (i := 7) (v := ?_) rfl (by kernel_rfl) (by kernel_rfl) (by kernel_rfl) (fun _ _ _ h => h) (Or.inl ⟨by kernel_rfl, ?_⟩) (by assumption) ?_
                  rotate_left
                  · intro Wt hSt
                    go_simp
                    try with_reducible rfl
                  try simp only [List.getElem_toArray, List.getElem_cons_zero, List.getElem_cons_succ, Act.put, List.setIfInBounds_toArray, List.set_cons_zero, List.set_cons_succ]
                  refine wpAnyH_one 11 _ rfl (by kernel_rfl) (by kernel_rfl) ?_
                  intro K' hK
                  go_simp
                  refine ((unhide HAT1) V2).mono ?_; rintro e0 V3 ⟨rfl, rfl⟩
                  dsimp only
                  refine hK _ _ hSW ?_
                  clear hK K'
                  try simp only [List.getElem_toArray, List.getElem_cons_zero, List.getElem_cons_succ, Act.put, List.setIfInBounds_toArray, List.set_cons_zero, List.set_cons_succ]
                  refine wpAnyH_take (i := 12) (v := ?_) rfl (by kernel_rfl) (by kernel_rfl) (by kernel_rfl) (fun _ _ _ h => h) (Or.inl ⟨by kernel_rfl, ?_⟩) (by assumption) ?_
                  rotate_left
                  · intro Wt hSt
                    go_simp
                    try with_reducible rfl
                  try simp only [List.getElem_toArray, List.getElem_cons_zero, List.getElem_cons_succ, Act.put, List.setIfInBounds_toArray, List.set_cons_zero, List.set_cons_succ]
                  refine wpAnyH_take (i := 13) (v := ?_) rfl (by kernel_rfl) (by kernel_rfl) (by kernel_rfl) (fun _ _ _ h => h) (Or.inl ⟨by kernel_rfl, ?_⟩) (by assumption) ?_
                  rotate_left
                  · intro Wt hSt
                    go_simp
                    try with_reducible rfl
                  try simp only [List.getElem_toArray, List.getElem_cons_zero, List.getElem_cons_succ, Act.put, List.setIfInBounds_toArray, List.set_cons_zero, List.set_cons_succ]
                  refine wpAnyH_take (i := 14) (v := ?_) rfl (by kernel_rfl) (by kernel_rfl) (by kernel_rfl) (fun _ _ _ h => h) (Or.inl ⟨by kernel_rfl, ?_⟩) (by assumption) ?_
                  rotate_left
                  · intro Wt hSt
                    go_simp
                    try with_reducible rfl
                  try simp only [List.getElem_toArray, List.getElem_cons_zero, List.getElem_cons_succ, Act.put, List.setIfInBounds_toArray, List.set_cons_zero, List.set_cons_succ]
                  refine wpAnyH_one 18 _ rfl (by kernel_rfl) (by kernel_rfl) ?_
                  intro K' hK
                  go_simp
                  refine ((unhide HAT2) V3).mono ?_; rintro e0 V4 ⟨rfl, rfl⟩
                  dsimp only
                  refine hK _ _ hSW ?_
                  clear hK K'
                  try simp only [List.getElem_toArray, List.getElem_cons_zero, List.getElem_cons_succ, Act.put, List.setIfInBounds_toArray, List.set_cons_zero, List.set_cons_succ]
                  refine wpAnyH_take (i := 19) (v := ?_) rfl (by kernel_rfl) (by kernel_rfl) (by kernel_rfl) (fun _ _ _ h => h) (Or.inl ⟨by kernel_rfl, ?_⟩) (by assumption) ?_
                  rotate_left
                  · intro Wt hSt
                    go_simp
                    try with_reducible rfl
                  try simp only [List.getElem_toArray, List.getElem_cons_zero, List.getElem_cons_succ, Act.put, List.setIfInBounds_toArray, List.set_cons_zero, List.set_cons_succ]
                  refine wpAnyH_take (i := 20) (v := ?_) rfl (by kernel_rfl) (by kernel_rfl) (by kernel_rfl) (fun _ _ _ h => h) (Or.inl ⟨by kernel_rfl, ?_⟩) (by assumption) ?_
                  rotate_left
                  · intro Wt hSt
                    go_simp
                    try with_reducible rfl
                  try simp only [List.getElem_toArray, List.getElem_cons_zero, List.getElem_cons_succ, Act.put, List.setIfInBounds_toArray, List.set_cons_zero, List.set_cons_succ]
                  refine wpAnyH_take (i := 21) (v := ?_) rfl (by kernel_rfl) (by kernel_rfl) (by kernel_rfl) (fun _ _ _ h => h) (Or.inl ⟨by kernel_rfl, ?_⟩) (by assumption) ?_
                  rotate_left
                  · intro Wt hSt
                    go_simp
                    try with_reducible rfl
                  try simp only [List.getElem_toArray, List.getElem_cons_zero, List.getElem_cons_succ, Act.put, List.setIfInBounds_toArray, List.set_cons_zero, List.set_cons_succ]
                  refine wpAnyH_take (i := 22) (v := ?_) rfl (by kernel_rfl) (by kernel_rfl) (by kernel_rfl) (fun _ _ _ h => h) (Or.inl ⟨by kernel_rfl, ?_⟩) (by assumption) ?_
                  rotate_left
                  · intro Wt hSt
                    go_simp
                    try with_reducible rfl
                  try simp only [List.getElem_toArray, List.getElem_cons_zero, List.getElem_cons_succ, Act.put, List.setIfInBounds_toArray, List.set_cons_zero, List.set_cons_succ]
                  refine wpAnyH_take (i := 23) (v := ?_) rfl (by kernel_rfl) (by kernel_rfl) (by kernel_rfl) (fun _ _ _ h => h) (Or.inl ⟨by kernel_rfl, ?_⟩) (by assumption) ?_
                  rotate_left
                  · intro Wt hSt
                    go_simp
                    try with_reducible rfl
                  try simp only [List.getElem_toArray, List.getElem_cons_zero, List.getElem_cons_succ, Act.put, List.setIfInBounds_toArray, List.set_cons_zero, List.set_cons_succ]
                  refine wpAnyH_chainOf [24] _ _ _ (by kernel_rfl) (by kernel_rfl) ?_
                  simp only [List.filterMap_cons, List.filterMap_nil, List.getElem?_toArray, List.getElem?_cons_zero, List.getElem?_cons_succ]
                  refine wpChain_step rfl fun K' hK => ?_
                  go_simp
                  obtain ⟨vv, hvv⟩ : ∃ z, z = X (G q) (An (X (G p1) 18446744073709551615) (G p2)) := ⟨_, rfl⟩
                  have HVV := hide hvv
                  have hs9 : BF N G (V4.setCell ⟨M, q, none⟩ (.int .u64 vv)) := KAt.grown hSW (grown_one V4 _ _ _) (by have := unhide HM; omega)
                  rw [hvv] at hs9
                  refine hK _ _ hs9 (wpChain_nil ?_)
                  clear hK K' hs9
                  go_wp2_with fail
                  go_roundg g2
                  case measure => omega
                  case rel =>
                    have h := unhide HY
                    have hk := (unhide HKW).set h.2.2.q1 (X (G q) (An (X (G p1) 18446744073709551615) (G p2)))
                    refine ⟨y + 1, rfl, by omega, ?_, (unhide HRHW).grown (unhide HM).1 (unhide HM).2 (grown_one V4 _ _ _)⟩
                    rw [show 5 * x + (y + 1) = 5 * x + y + 1 by omega, ← oR_step G x y h.2.1]
                    rw [h.2.2.en, h.2.2.em, h.2.2.eq_] at hk
                    rw [h.2.2.en, h.2.2.em, h.2.2.eq_]
                    exact hk
                · have y1 : ¬ (y : Int) < 5 := by omega
                  obtain rfl : y = 5 := by omega
                  clear hyg hy
                  go_wp2_with fail
                  go_roundg g
                  case measure => omega
                  case rel => exact ⟨x + 1, rfl, by have := unhide HX; omega, by rw [show 5 * (x + 1) = 5 * x + 5 by omega]; exact unhide HK, unhide HRH⟩
            · have x1 : ¬ (x : Int) < 5 := by omega
              obtain rfl : x = 5 := by omega
              clear hxg hx
              have HK2 : Hid (KAt .u64 25 wr M 110 (oR G 25)) := unhide HK
              have hc0 := (unhide HK2).cell (j := 0) (by decide)
              have hf0 := (unhide HK2).free 0
              clear HK
              go_upto_region 27 with fail
              have HK3 := hide ((unhide HK2).set (j := 0) (by decide) (X (oR G 25 0) kk))
              have HRH3 := hide ((unhide HRH).grown (unhide HM).1 (unhide HM).2 (grown_one wr M 0 (.int .u64 (X (oR G 25 0) kk))))
              have HE : Hid (upd (oR G 25) 0 (X (oR G 25 0) kk) = rndR f kk) := by rw [unhide HGG]; rfl
              rw [unhide HE] at HK3
              clear HE HGG hc0 hf0 HK2 HRH
              refine wp_region_lit ?_
              refine wpList_kload rfl 110 (.tmp 14) rfl M rfl _ Tryd.underlying110 rfl .u64 25 infoS _ _ (unhide HK3) ?_
              refine wpList_kstore rfl 110 (.tmp 6) (.tmp 118) rfl (w.heap.size + 2) rfl .u64 25 (rndR f kk) rfl infoS _ _ (unhide HRH3).g_.o ?_
              intro W10 HK10 HG10
              have HB10 := hide ((unhide HRH3).g_.b.grown (unhide HG10) (unhide HRH3).g_.b.size (fun i e => by injection e with e; omega))
              obtain ⟨ce, hce⟩ : ∃ cs, cs = (kc .u64 25 (rndR f kk)).toArray := ⟨_, rfl⟩
              rw [show kv .u64 25 (rndR f kk) = .agg ce by rw [hce]]
              have HCE := hide hce
              clear hce HG10 HK3 HRH3
              try simp only [List.getElem_toArray, List.getElem_cons_zero, List.getElem_cons_succ, Act.put, List.setIfInBounds_toArray, List.set_cons_zero, List.set_cons_succ]
              go_wp2_with fail
              try simp only [Exit.inBlock, Exit.then]
              exact kret rfl rfl (w.heap.size + 2) rfl .u64 25 _ _ (unhide HK10) _ Tryd.underlying110 rfl infoS ⟨rfl, unhide HB10⟩
end Go.Proofs.YtceppmajbkmbdaaDoor
namespace Go.Proofs.YtceppmajbkmbdaaDoor
set_option linter.unusedSimpArgs false
set_option linter.unusedVariables false
open Go.RowKit

/-- bytes from a block's start on -/
structure RPB (w : World) (g : Nat) (q : List Int) : Prop where
  lt : g < w.heap.size
  at_ : ∀ i, i < q.length → w.cell? ⟨g, i, none⟩ = some (.int .u8 (q.getD i 0))
theorem RPB.keep {w w' : World} {g : Nat} {q : List Int} (h : RPB w g q) (hb : Below w.heap.size w w') : RPB w' g q :=
  ⟨Nat.lt_of_lt_of_le h.lt hb.size, fun i hi => (World.cell?_of_block (a := ⟨g, i, none⟩) (hb.block g h.lt)).trans (h.at_ i hi)⟩
theorem RPB.grown {w w' : World} {g b : Nat} {q : List Int} (h : RPB w g q) (hg : w.grownBy w' (some b)) (hne : g ≠ b) : RPB w' g q :=
  ⟨Nat.lt_of_lt_of_le h.lt hg.size, fun i hi => (World.cell?_of_block (a := ⟨g, i, none⟩) (hg.block g h.lt (fun e => by injection e with e; exact hne e))).trans (h.at_ i hi)⟩
def cK (q : Nat) : Int := constT.getD q 0
/-- what stays through the hash -/
structure SW (w : World) (b4 b5 g : Nat) (q : List Int) (V : World) : Prop where
  r : ByAt V w.heap.size 24 zeros
  t : KAt .i64 25 V b4 111 (rT 24)
  k : KAt .u64 24 V b5 113 cK
  p : RPB V g q
  b : Below w.heap.size w V
theorem ByAt.keepS {w w' : World} {b : Nat} {t : TypeId} {l : List Int} (h : ByAt w b t l) {N : Nat} (hg : w.grownBy w' (some N)) (hne : b ≠ N) : ByAt w' b t l :=
  (hg.block b (Array.getElem?_eq_some_iff.1 h).1 (fun e => by injection e with e; exact hne e)).trans h
section
variable {w V V' : World} {b4 b5 g : Nat} {q : List Int}
theorem SW.keep (h : SW w b4 b5 g q V) (hb : Below V.heap.size V V') : SW w b4 b5 g q V' := ⟨h.r.keep hb, h.t.keep hb, h.k.keep hb, h.p.keep hb, thenB h.b hb⟩
theorem SW.grown (h : SW w b4 b5 g q V) {N : Nat} (hN : w.heap.size < N ∧ b4 ≠ N ∧ b5 ≠ N ∧ g ≠ N) (hg : V.grownBy V' (some N)) : SW w b4 b5 g q V' :=
  ⟨h.r.keepS hg (by omega), h.t.grown hg hN.2.1, h.k.grown hg hN.2.2.1, h.p.grown hg hN.2.2.2, h.b.grown hg h.b.size (fun i e => by injection e with e; omega)⟩
end
/-- the numbers of a byte's round -/
structure NS (i n0 pl k8 r8 s8 j : Nat) : Prop where
  tq : ((i : Nat) : Int).tdiv 8 = (k8 : Int)
  wq : IntKind.i64.wrap (k8 : Int) = (k8 : Int)
  tm : ((i : Nat) : Int).tmod 8 = (r8 : Int)
  ws : IntKind.i64.wrap (8 * (r8 : Int)) = (s8 : Int)
  wj : IntKind.i64.wrap ((n0 : Int) + (i : Int)) = (j : Int)
  k1 : k8 < 25
  s1 : s8 < 64
  j1 : j < pl
  ek : k8 = i / 8
  es : s8 = 8 * (i % 8)
  ej : j = n0 + i
theorem ns_mk (i n0 pl : Nat) (hi : i < 136) (hn : n0 + 136 ≤ pl) (hp : pl ≤ 1000000000) : ∃ k8 r8 s8 j, NS i n0 pl k8 r8 s8 j := by
  refine ⟨i / 8, i % 8, 8 * (i % 8), n0 + i, ?_⟩
  constructor
  · exact (Int.tdiv_eq_ediv_of_nonneg (by omega)).trans (by omega)
  · exact IntWalk.i64_in _ (by omega)
  · exact (Int.tmod_eq_emod_of_nonneg (by omega)).trans (by omega)
  · exact (IntWalk.i64_in _ (by omega)).trans (by omega)
  · exact (IntWalk.i64_in _ (by omega)).trans (by omega)
  · omega
  · omega
  · omega
  · rfl
  · rfl
  · rfl
def qsF (q : List Int) (n0 : Nat) : List Int := (q.drop n0).take 136
theorem qsF_get (q : List Int) (n0 i : Nat) (hi : i < 136) : (qsF q n0).getD i 0 = q.getD (n0 + i) 0 := by
  unfold qsF
  rw [List.getD_eq_getElem?_getD, List.getD_eq_getElem?_getD, List.getElem?_take, if_pos hi, List.getElem?_drop]
theorem qsF_byt (q : List Int) (n0 : Nat) (h : ∀ i, 0 ≤ q.getD i 0 ∧ q.getD i 0 < 256) : ∀ i, 0 ≤ (qsF q n0).getD i 0 ∧ (qsF q n0).getD i 0 < 256 := by
  intro i
  by_cases hi : i < 136
  · rw [qsF_get q n0 i hi]; exact h _
  · unfold qsF
    rw [List.getD_eq_getElem?_getD, List.getElem?_take, if_neg hi]
    exact ⟨by decide, by decide⟩
def aR (f : Nat → Int) (q : List Int) (n0 i : Nat) : Nat → Int := addR f (fun i => (qsF q n0).getD i 0) i
theorem aR_step (f : Nat → Int) (q : List Int) (n0 i : Nat) (hi : i < 136) : upd (aR f q n0 i) (i / 8) (X (aR f q n0 i (i / 8)) (sh (q.getD (n0 + i) 0) (8 * (i % 8)))) = aR f q n0 (i + 1) := by
  rw [← qsF_get q n0 i hi]
  rfl
theorem wrap_byt (c : Int) (h : 0 ≤ c ∧ c < 256) : IntKind.u64.wrap c = c := by
  rw [IntKind.wrap_u64]
  omega
/-- the first i bytes of the hash -/
def oL (Z : Nat → Int) (i : Nat) : List Int := (List.range 32).map fun j => if j < i then IntKind.u8.wrap (Z (j / 8) / 2 ^ (8 * (j % 8))) else 0
theorem oL_length (Z : Nat → Int) (i : Nat) : (oL Z i).length = 32 := by simp [oL]
theorem oL_zero (Z : Nat → Int) : oL Z 0 = zeros := by
  unfold oL
  simp
  rfl
theorem oL_end (Z : Nat → Int) : oL Z 32 = outF Z := by
  unfold oL outF
  exact List.map_congr_left fun j hj => if_pos (by simpa using hj)
theorem oL_step (Z : Nat → Int) (i : Nat) (hi : i < 32) : (oL Z i).set i (IntKind.u8.wrap (Z (i / 8) / 2 ^ (8 * (i % 8)))) = oL Z (i + 1) := by
  apply List.ext_getElem?
  intro j
  rw [List.getElem?_set, oL_length]
  unfold oL
  by_cases hj : j < 32
  · rw [List.getElem?_map, List.getElem?_map, List.getElem?_range hj]
    by_cases h : i = j
    · subst h; rw [if_pos rfl, if_pos hi]; simp
    · rw [if_neg h]
      by_cases hk : j < i
      · simp [hk, show j < i + 1 by omega]
      · simp [hk, show ¬ j < i + 1 by omega]
  · rw [if_neg (by omega), List.getElem?_eq_none (by simp; omega), List.getElem?_eq_none (by simp; omega)]
theorem wpChain_kstore {P : Program} {ops : Array Oper} {l' : List Oper} {o : Oper} {a : Act} {w : World} {Q : Exit → Act → World → Prop} {S : World → Prop} (hgd : o.guard = none) (ty : TypeId) (x y : Operand) (ho : o.op = .store ty x y)
    (N : Nat) (hx : a.eval x = .pointer (some ⟨N, 0, none⟩)) (k : IntKind) (n : Nat) (g : Nat → Int) (hy : a.eval y = kv k n g) (hi : (P.info? ty).map (·.size) = some n) (T : TypeId) (f : Nat → Int) (h0 : KAt k n w N T f)
    (h : ∀ W, Hid (KAt k n W N T g) → Hid (w.grownBy W (some N)) → S W ∧ wpChain P ops Q S l' (a.put o.dst undef) W) : wpChain P ops Q S (o :: l') a w := by
  obtain ⟨h1, h2⟩ := h _ (h0.setAll g) (grownSetCells N _ _ w)
  exact wpChain_step hgd fun K hK => wp_store_mid ty x y ho N 0 (kc k n g).toArray hx hy (by rw [List.size_toArray, kc_length]; exact h0.there) (by rw [List.size_toArray, kc_length]; exact hi) (kc_one k n g) (hK _ _ h1 h2)
theorem infoC24 : (Tryd.prog.info? 113).map (·.size) = some 24 := by kernel_rfl
theorem infoT25 : (Tryd.prog.info? 111).map (·.size) = some 25 := by kernel_rfl
set_option maxRecDepth 100000 in
set_option maxHeartbeats 4000000 in
theorem rsum_any (w : World) (A : Option Addr) (c : Nat) (l : List Int) (hA : Bt w A l) (hc : l.length ≤ c) (hn : A = none → c = 0) (hl : l.length ≤ 900000000) :
    Calls Tryd.prog 84 #[.slice A l.length c] w fun x w' => x = .returned (dv (hashF l)) ∧ Below w.heap.size w w' := by
  obtain ⟨n, hnl⟩ : ∃ n, n = l.length := ⟨_, rfl⟩
  have HA := hide hA
  have HL : Hid (n = l.length ∧ l.length ≤ 900000000 ∧ l.length ≤ c) := ⟨hnl, hl, hc⟩
  have HNn := hide hn
  rw [← hnl]
  clear hnl hl hA hn hc
  go_enter Tryd.func84, Tryd.ntmps84
  go_upto_region 1 with fail
  generalize hX1 : w.alloc _ = W1
  have hB1 : Below w.heap.size w W1 := hX1 ▸ (Below.refl _ _).alloc (Nat.le_refl _) _
  have HR1 := hide (newBy w W1 (by rw [← hX1]; rfl))
  have HB1 := hide hB1
  have HZ1 : Hid (W1.heap.size = w.heap.size + 1) := by rw [← hX1]; show (w.heap.push _).size = _; rw [Array.size_push]
  clear hX1 hB1
  refine wp_region_lit ?_
  refine wpList_build0 rfl 110 rfl (kv .u64 25 fun _ => 0) (buildS _) ?_
  obtain ⟨cy, hcy⟩ : ∃ cs, cs = (kc .u64 25 fun _ => 0).toArray := ⟨_, rfl⟩
  rw [show kv .u64 25 (fun _ => 0) = .agg cy by rw [hcy]]
  have HCY := hide hcy
  clear hcy
  refine wpList_plain rfl fun Kt hKt => ?_
  go_simp
  refine hKt _ _ ?_
  clear hKt Kt
  generalize hX2 : W1.alloc _ = W2
  have hB2 : Below W1.heap.size W1 W2 := hX2 ▸ (Below.refl _ _).alloc (Nat.le_refl _) _
  have HN2 := hide (newK W1 W2 (k := .u64) (n := 25) (t := 110) (f := fun _ => 0) (by rw [← hX2]; rfl))
  have HR2 := hide ((unhide HR1).keep hB2)
  have HB2 := hide (thenB (unhide HB1) hB2)
  obtain ⟨N, hN⟩ : ∃ N, N = W1.heap.size := ⟨_, rfl⟩
  have HNZ : Hid (w.heap.size < N) := by show w.heap.size < N; rw [hN, unhide HZ1]; omega
  rw [← hN] at HN2 ⊢
  clear hX2 hB2 HR1 HB1 hN HZ1
  refine wpList_kstore rfl 110 (.tmp 3) (.tmp 12) rfl N rfl .u64 25 (fun _ => 0) (show Value.agg cy = _ by rw [unhide HCY]) infoS _ _ (unhide HN2) ?_
  intro W3 HK3 HG3
  have HR3 := hide ((unhide HR2).keepS (unhide HG3) (by have := unhide HNZ; omega))
  have HB3 := hide ((unhide HB2).grown (unhide HG3) (unhide HB2).size (fun i e => by injection e with e; have := unhide HNZ; omega))
  clear HG3 HR2 HB2 HN2
  try simp only [List.getElem_toArray, List.getElem_cons_zero, List.getElem_cons_succ, Act.put, List.setIfInBounds_toArray, List.set_cons_zero, List.set_cons_succ]
  go_wp2_with fail
  refine (rturns_any W3).mono ?_; rintro x W4 ⟨rfl, hb4⟩
  have HK4 := hide ((unhide HK3).keep hb4)
  have HR4 := hide ((unhide HR3).keep hb4)
  have HB4 := hide (thenB (unhide HB3) hb4)
  obtain ⟨ct, hct⟩ : ∃ cs, cs = (kc .i64 25 (rT 24)).toArray := ⟨_, rfl⟩
  rw [show kv .i64 25 (rT 24) = .agg ct by rw [hct]]
  have HCT := hide hct
  clear hct hb4 HK3 HR3 HB3
  dsimp only
  rename_i KK hK
  refine hK _ _ ?_
  clear hK KK
  refine wpList_plain rfl fun Kt hKt => ?_
  go_simp
  refine hKt _ _ ?_
  clear hKt Kt
  generalize hX5 : W4.alloc _ = W5
  have hB5 : Below W4.heap.size W4 W5 := hX5 ▸ (Below.refl _ _).alloc (Nat.le_refl _) _
  have HT5 := hide (newK W4 W5 (k := .i64) (n := 25) (t := 111) (f := fun _ => 0) (by rw [← hX5]; rfl))
  have HK5 := hide ((unhide HK4).keep hB5)
  have HR5 := hide ((unhide HR4).keep hB5)
  have HB5 := hide (thenB (unhide HB4) hB5)
  obtain ⟨b4, hb4⟩ : ∃ b4, b4 = W4.heap.size := ⟨_, rfl⟩
  have HZ4 : Hid (N < b4) := hb4 ▸ (unhide HK4).lt
  rw [← hb4] at HT5 ⊢
  clear hX5 hB5 HK4 HR4 HB4 hb4
  refine wpList_kstore rfl 111 (.tmp 4) (.tmp 13) rfl b4 rfl .i64 25 (rT 24) (show Value.agg ct = _ by rw [unhide HCT]) infoT25 _ _ (unhide HT5) ?_
  intro W6 HT6 HG6
  have HK6 := hide ((unhide HK5).grown (unhide HG6) (by have := unhide HZ4; omega))
  have HR6 := hide ((unhide HR5).keepS (unhide HG6) (by have := unhide HZ4; have := unhide HNZ; omega))
  have HB6 := hide ((unhide HB5).grown (unhide HG6) (unhide HB5).size (fun i e => by injection e with e; have := unhide HZ4; have := unhide HNZ; omega))
  clear HG6 HT5 HK5 HR5 HB5
  try simp only [List.getElem_toArray, List.getElem_cons_zero, List.getElem_cons_succ, Act.put, List.setIfInBounds_toArray, List.set_cons_zero, List.set_cons_succ]
  go_wp2_with fail
  refine (rconst_any W6).mono ?_; rintro x W7 ⟨rfl, hb7⟩
  have HK7 := hide ((unhide HK6).keep hb7)
  have HR7 := hide ((unhide HR6).keep hb7)
  have HB7 := hide (thenB (unhide HB6) hb7)
  have HT7 := hide ((unhide HT6).keep hb7)
  obtain ⟨cq, hcq⟩ : ∃ cs, cs = (kc .u64 24 (fun q => constT.getD q 0)).toArray := ⟨_, rfl⟩
  rw [show kv .u64 24 (fun q => constT.getD q 0) = .agg cq by rw [hcq]]
  have HCQ := hide hcq
  clear hcq hb7 HK6 HR6 HB6 HT6
  dsimp only
  rename_i KK hK
  refine hK _ _ ?_
  clear hK KK
  refine wpList_plain rfl fun Kt hKt => ?_
  go_simp
  refine hKt _ _ ?_
  clear hKt Kt
  generalize hX8 : W7.alloc _ = W8
  have hB8 : Below W7.heap.size W7 W8 := hX8 ▸ (Below.refl _ _).alloc (Nat.le_refl _) _
  have HQ8 := hide (newK W7 W8 (k := .u64) (n := 24) (t := 113) (f := fun _ => 0) (by rw [← hX8]; rfl))
  have HK8 := hide ((unhide HK7).keep hB8)
  have HR8 := hide ((unhide HR7).keep hB8)
  have HT8 := hide ((unhide HT7).keep hB8)
  have HB8 := hide (thenB (unhide HB7) hB8)
  obtain ⟨b5, hb5⟩ : ∃ b5, b5 = W7.heap.size := ⟨_, rfl⟩
  have HZ5 : Hid (b4 < b5) := hb5 ▸ (unhide HT7).lt
  rw [← hb5] at HQ8 ⊢
  clear hX8 hB8 HK7 HR7 HB7 HT7 hb5
  refine wpList_kstore rfl 113 (.tmp 5) (.tmp 14) rfl b5 rfl .u64 24 cK (show Value.agg cq = _ by rw [unhide HCQ]; rfl) infoC24 _ _ (unhide HQ8) ?_
  intro W9 HQ9 HG9
  have HK9 := hide ((unhide HK8).grown (unhide HG9) (by have := unhide HZ4; have := unhide HZ5; omega))
  have HT9 := hide ((unhide HT8).grown (unhide HG9) (by have := unhide HZ5; omega))
  have HR9 := hide ((unhide HR8).keepS (unhide HG9) (by have := unhide HZ4; have := unhide HNZ; have := unhide HZ5; omega))
  have HB9 := hide ((unhide HB8).grown (unhide HG9) (unhide HB8).size (fun i e => by injection e with e; have := unhide HZ4; have := unhide HNZ; have := unhide HZ5; omega))
  clear HG9 HQ8 HK8 HR8 HB8 HT8
  try simp only [List.getElem_toArray, List.getElem_cons_zero, List.getElem_cons_succ, Act.put, List.setIfInBounds_toArray, List.set_cons_zero, List.set_cons_succ]
  go_wp2_with fail
  have hpd := rpadded_any W9 A c l ((unhide HA).keep (unhide HB9)) (unhide HL).2.2 (unhide HNn) (unhide HL).2.1
  rw [← (unhide HL).1] at hpd
  refine hpd.mono ?_; rintro x W10 ⟨v, rfl, hown, hb10⟩
  obtain ⟨g, cap, rfl, hbg, hcell, -⟩ := hown.opened (by intro h; have := padR_pos l; rw [h] at this; simp at this)
  have HPB : Hid (RPB W10 g (padR l)) := ⟨(hown.lt g rfl).2, fun i hi => (hcell i hi).1⟩
  have HZ6 : Hid (W9.heap.size ≤ g) := hbg
  have HZ7 : Hid (b5 < W9.heap.size) := (unhide HQ9).lt
  have HNE : Hid (w.heap.size < N ∧ b4 ≠ N ∧ b5 ≠ N ∧ g ≠ N) := by
    have h1 := unhide HZ4; have h2 := unhide HNZ; have h3 := unhide HZ5; have h4 := unhide HZ6; have h5 := unhide HZ7
    exact ⟨h2, by omega, by omega, by omega⟩
  have HS := hide (SW.mk (q := padR l) ((unhide HR9).keep hb10) ((unhide HT9).keep hb10) ((unhide HQ9).keep hb10) (unhide HPB) (thenB (unhide HB9) hb10))
  have HK := hide ((unhide HK9).keep hb10)
  obtain ⟨q, hq⟩ : ∃ q, q = padR l := ⟨_, rfl⟩
  obtain ⟨m, hm⟩ : ∃ m, m = l.length / 136 + 1 := ⟨_, rfl⟩
  obtain ⟨pl, hpl⟩ : ∃ pl, pl = (padR l).length := ⟨_, rfl⟩
  have HQ : Hid (q = padR l ∧ m = l.length / 136 + 1 ∧ pl = 136 * m ∧ q.length = pl ∧ m ≤ 7000000) := ⟨hq, hm, by rw [hpl, hm, padR_length], by rw [hq, hpl], by have := (unhide HL).2.1; omega⟩
  rw [← hq] at HS
  rw [← hpl]
  have HBY : Hid (∀ i, 0 ≤ q.getD i 0 ∧ q.getD i 0 < 256) := by
    intro i
    rw [hq, List.getD_eq_getElem?_getD]
    cases h : (padR l)[i]? with
    | none => exact ⟨by decide, by decide⟩
    | some u => exact padR_byt l (fun c hc => (unhide HA).byt c hc) u (List.mem_of_getElem? h)
  clear hpd hown hb10 hbg hcell HPB HZ6 HZ7 HZ4 HZ5 HNZ HQ9 HK9 HT9 HR9 HB9 hq hm hpl
  go_wp2_with fail
  go_loopg [7] m (fun gg y7 wx => ∃ b : Nat, y7 = .int .i64 ((136 * b : Nat) : Int) ∧ b + gg = m ∧ KAt .u64 25 wx N 110 (blkF (fun _ => 0) q b) ∧ SW w b4 b5 g q wx)
  case atStart => exact ⟨0, rfl, by omega, unhide HK, unhide HS⟩
  case round =>
    clear HK HS
    obtain ⟨b, rfl, hbg, hk, hs⟩ := hrel
    have HK := hide hk; have HS := hide hs
    clear hk hs
    obtain ⟨n0, hn0⟩ : ∃ n0, n0 = 136 * b := ⟨_, rfl⟩
    rw [← hn0]
    by_cases hb : b < m
    · obtain ⟨gg, rfl⟩ : ∃ g, gk = g + 1 := ⟨gk - 1, by omega⟩
      have HBM : Hid (b + (gg + 1) = m ∧ b < m ∧ n0 = 136 * b ∧ n0 + 136 ≤ pl ∧ pl ≤ 1000000000) := by
        have := unhide HQ
        exact ⟨hbg, hb, hn0, by omega, by omega⟩
      have n1 : (n0 : Int) < (pl : Int) := by have := unhide HBM; omega
      have wn : IntKind.i64.wrap ((n0 : Int) + 136) = ((136 * (b + 1) : Nat) : Int) := (IntWalk.i64_in _ (by have := unhide HBM; omega)).trans (by omega)
      obtain ⟨F, hF⟩ : ∃ F, F = blkF (fun _ => 0) q b := ⟨_, rfl⟩
      rw [← hF] at HK
      have HF := hide hF
      clear hbg hb hn0 hF
      go_wp2_with fail
      go_loopg [8] 136 (fun g8 y8 wx => ∃ i : Nat, y8 = .int .i64 (i : Int) ∧ i + g8 = 136 ∧ KAt .u64 25 wx N 110 (aR F q n0 i) ∧ SW w b4 b5 g q wx)
      case atStart => exact ⟨0, rfl, by omega, unhide HK, unhide HS⟩
      case round =>
        clear HK HS
        obtain ⟨i, rfl, hig, hk, hs⟩ := hrel
        have HK := hide hk; have HS := hide hs
        clear hk hs
        by_cases hi : i < 136
        · obtain ⟨g2, rfl⟩ : ∃ g, gk = g + 1 := ⟨gk - 1, by omega⟩
          have i1 : (i : Int) < 136 := by omega
          have wi : IntKind.i64.wrap ((i : Int) + 1) = ((i + 1 : Nat) : Int) := (IntWalk.i64_in _ (by omega)).trans (by omega)
          obtain ⟨k8, r8, s8, j, ns⟩ := ns_mk i n0 pl hi (unhide HBM).2.2.2.1 (unhide HBM).2.2.2.2
          have HNS : Hid (i + (g2 + 1) = 136 ∧ i < 136 ∧ NS i n0 pl k8 r8 s8 j) := ⟨hig, hi, ns⟩
          have tq := ns.tq
          have wq := ns.wq
          have tm := ns.tm
          have ws := ns.ws
          have wj := ns.wj
          have k0 : (0 : Int) ≤ (k8 : Int) := Int.natCast_nonneg _
          have k1 : (k8 : Int) < 25 := lt_int ns.k1
          have j0 : (0 : Int) ≤ (j : Int) := Int.natCast_nonneg _
          have j1 : (j : Int) < (pl : Int) := lt_int ns.j1
          have s0 : (0 : Int) ≤ (s8 : Int) := Int.natCast_nonneg _
          have s1 : (s8 : Int) < 64 := lt_int ns.s1
          obtain ⟨cv, hcv⟩ : ∃ cv, cv = q.getD j 0 := ⟨_, rfl⟩
          have wc : IntKind.u64.wrap cv = cv := wrap_byt cv (hcv ▸ unhide HBY j)
          have hs1 := shift_shl .u64 .i64 cv (s8 : Int) s0 (by simp [IntKind.bits]; omega)
          have HCV := hide hcv
          clear hig hi ns
          go_wp2_with fail
          obtain ⟨W, hW⟩ : ∃ W, W = wr.drewN 1 := ⟨_, rfl⟩
          have HW : Hid (W = wr.drewN 1) := hW
          have HKW := hide ((unhide HK).keep (below_named HW))
          have HSW := hide ((unhide HS).keep (below_named HW))
          have hSW : RPB W g q := (unhide HSW).p
          have hfp : ∀ V, RPB V g q → V.cell? ⟨g, j, none⟩ = some (.int .u8 cv) := fun V hV => by
            rw [hcv]
            exact hV.at_ j (by rw [(unhide HQ).2.2.2.1]; exact (unhide HNS).2.2.j1)
          have hcC := (unhide HKW).cell (unhide HNS).2.2.k1
          have hcF := (unhide HKW).free k8
          obtain ⟨aa, haa⟩ : ∃ aa, aa = aR F q n0 i k8 := ⟨_, rfl⟩
          rw [← haa] at hcC
          have HAA := hide haa
          clear hW HK HS hcv haa
          refine held (S := fun V => RPB V g q) W HW (by kernel_rfl) ?_
          refine wpAnyH_take (i := 0) (v := ?_) rfl (by kernel_rfl) (by kernel_rfl) (by kernel_rfl) (fun _ _ _ h => h) (Or.inl ⟨by kernel_rfl, ?_⟩) (by assumption) ?_
          rotate_left
          · intro Wt hSt
            go_simp
            try with_reducible rfl
          try simp only [List.getElem_toArray, List.getElem_cons_zero, List.getElem_cons_succ, Act.put, List.setIfInBounds_toArray, List.set_cons_zero, List.set_cons_succ]
          refine wpAnyH_take (i := 1) (v := ?_) rfl (by kernel_rfl) (by kernel_rfl) (by kernel_rfl) (fun _ _ _ h => h) (Or.inl ⟨by kernel_rfl, ?_⟩) (by assumption) ?_
          rotate_left
          · intro Wt hSt
            go_simp
            try with_reducible rfl
          try simp only [List.getElem_toArray, List.getElem_cons_zero, List.getElem_cons_succ, Act.put, List.setIfInBounds_toArray, List.set_cons_zero, List.set_cons_succ]
          refine wpAnyH_take (i := 2) (v := ?_) rfl (by kernel_rfl) (by kernel_rfl) (by kernel_rfl) (fun _ _ _ h => h) (Or.inl ⟨by kernel_rfl, ?_⟩) (by assumption) ?_
          rotate_left
          · intro Wt hSt
            go_simp
            try with_reducible rfl
          try simp only [List.getElem_toArray, List.getElem_cons_zero, List.getElem_cons_succ, Act.put, List.setIfInBounds_toArray, List.set_cons_zero, List.set_cons_succ]
          refine wpAnyH_take (i := 3) (v := ?_) rfl (by kernel_rfl) (by kernel_rfl) (by kernel_rfl) (fun _ _ _ h => h) (Or.inl ⟨by kernel_rfl, ?_⟩) (by assumption) ?_
          rotate_left
          · intro Wt hSt
            go_simp
            try with_reducible rfl
          try simp only [List.getElem_toArray, List.getElem_cons_zero, List.getElem_cons_succ, Act.put, List.setIfInBounds_toArray, List.set_cons_zero, List.set_cons_succ]
          refine wpAnyH_take (i := 4) (v := ?_) rfl (by kernel_rfl) (by kernel_rfl) (by kernel_rfl) (fun _ _ _ h => h) (Or.inl ⟨by kernel_rfl, ?_⟩) (by assumption) ?_
          rotate_left
          · intro Wt hSt
            go_simp
            try with_reducible rfl
          try simp only [List.getElem_toArray, List.getElem_cons_zero, List.getElem_cons_succ, Act.put, List.setIfInBounds_toArray, List.set_cons_zero, List.set_cons_succ]
          refine wpAnyH_take (i := 6) (v := ?_) rfl (by kernel_rfl) (by kernel_rfl) (by kernel_rfl) (fun _ _ _ h => h) (Or.inl ⟨by kernel_rfl, ?_⟩) (by assumption) ?_
          rotate_left
          · intro Wt hSt
            go_simp
            try with_reducible rfl
          try simp only [List.getElem_toArray, List.getElem_cons_zero, List.getElem_cons_succ, Act.put, List.setIfInBounds_toArray, List.set_cons_zero, List.set_cons_succ]
          refine wpAnyH_take (i := 7) (v := ?_) rfl (by kernel_rfl) (by kernel_rfl) (by kernel_rfl) (fun _ _ _ h => h) (Or.inl ⟨by kernel_rfl, ?_⟩) (by assumption) ?_
          rotate_left
          · intro Wt hSt
            go_simp
            try with_reducible rfl
          try simp only [List.getElem_toArray, List.getElem_cons_zero, List.getElem_cons_succ, Act.put, List.setIfInBounds_toArray, List.set_cons_zero, List.set_cons_succ]
          refine wpAnyH_take (i := 8) (v := ?_) rfl (by kernel_rfl) (by kernel_rfl) (by kernel_rfl) (fun _ _ _ h => h) (Or.inl ⟨by kernel_rfl, ?_⟩) (by assumption) ?_
          rotate_left
          · intro Wt hSt
            go_simp
            try with_reducible rfl
          try simp only [List.getElem_toArray, List.getElem_cons_zero, List.getElem_cons_succ, Act.put, List.setIfInBounds_toArray, List.set_cons_zero, List.set_cons_succ]
          refine wpAnyH_take (i := 9) (v := ?_) rfl (by kernel_rfl) (by kernel_rfl) (by kernel_rfl) (fun _ _ _ h => h) (Or.inl ⟨by kernel_rfl, ?_⟩) (by assumption) ?_
          rotate_left
          · intro Wt hSt
            go_simp
            try with_reducible rfl
          try simp only [List.getElem_toArray, List.getElem_cons_zero, List.getElem_cons_succ, Act.put, List.setIfInBounds_toArray, List.set_cons_zero, List.set_cons_succ]
          refine wpAnyH_take (i := 10) (v := ?_) rfl (by kernel_rfl) (by kernel_rfl) (by kernel_rfl) (fun _ _ _ h => h) (Or.inl ⟨by kernel_rfl, ?_⟩) (by assumption) ?_
          rotate_left
          · intro Wt hSt
            go_simp
            try with_reducible rfl
          try simp only [List.getElem_toArray, List.getElem_cons_zero, List.getElem_cons_succ, Act.put, List.setIfInBounds_toArray, List.set_cons_zero, List.set_cons_succ]
          refine wpAnyH_take (i := 11) (v := ?_) rfl (by kernel_rfl) (by kernel_rfl) (by kernel_rfl) (fun _ _ _ h => h) (Or.inl ⟨by kernel_rfl, ?_⟩) (by assumption) ?_
          rotate_left
          · intro Wt hSt
            go_simp
            try with_reducible rfl
          try simp only [List.getElem_toArray, List.getElem_cons_zero, List.getElem_cons_succ, Act.put, List.setIfInBounds_toArray, List.set_cons_zero, List.set_cons_succ]
          refine wpAnyH_take (i := 12) (v := ?_) rfl (by kernel_rfl) (by kernel_rfl) (by kernel_rfl) (fun _ _ _ h => h) (Or.inl ⟨by kernel_rfl, ?_⟩) (by assumption) ?_
          rotate_left
          · intro Wt hSt
            go_simp
            try with_reducible rfl
          try simp only [List.getElem_toArray, List.getElem_cons_zero, List.getElem_cons_succ, Act.put, List.setIfInBounds_toArray, List.set_cons_zero, List.set_cons_succ]
          refine wpAnyH_take (i := 13) (v := ?_) rfl (by kernel_rfl) (by kernel_rfl) (by kernel_rfl) (fun _ _ _ h => h) (Or.inl ⟨by kernel_rfl, ?_⟩) (by assumption) ?_
          rotate_left
          · intro Wt hSt
            go_simp
            try with_reducible rfl
          try simp only [List.getElem_toArray, List.getElem_cons_zero, List.getElem_cons_succ, Act.put, List.setIfInBounds_toArray, List.set_cons_zero, List.set_cons_succ]
          refine wpAnyH_take (i := 14) (v := ?_) rfl (by kernel_rfl) (by kernel_rfl) (by kernel_rfl) (fun _ _ _ h => h) (Or.inl ⟨by kernel_rfl, ?_⟩) (by assumption) ?_
          rotate_left
          · intro Wt hSt
            go_simp
            try with_reducible rfl
          try simp only [List.getElem_toArray, List.getElem_cons_zero, List.getElem_cons_succ, Act.put, List.setIfInBounds_toArray, List.set_cons_zero, List.set_cons_succ]
          refine wpAnyH_take (i := 15) (v := ?_) rfl (by kernel_rfl) (by kernel_rfl) (by kernel_rfl) (fun _ _ _ h => h) (Or.inl ⟨by kernel_rfl, ?_⟩) (by assumption) ?_
          rotate_left
          · intro Wt hSt
            go_simp
            try with_reducible rfl
          try simp only [List.getElem_toArray, List.getElem_cons_zero, List.getElem_cons_succ, Act.put, List.setIfInBounds_toArray, List.set_cons_zero, List.set_cons_succ]
          refine wpAnyH_take (i := 16) (v := ?_) rfl (by kernel_rfl) (by kernel_rfl) (by kernel_rfl) (fun _ _ _ h => h) (Or.inl ⟨by kernel_rfl, ?_⟩) (by assumption) ?_
          rotate_left
          · intro Wt hSt
            go_simp
            try with_reducible rfl
          try simp only [List.getElem_toArray, List.getElem_cons_zero, List.getElem_cons_succ, Act.put, List.setIfInBounds_toArray, List.set_cons_zero, List.set_cons_succ]
          refine wpAnyH_one 5 _ rfl (by kernel_rfl) (by kernel_rfl) ?_
          intro K' hK
          go_simp
          refine hK _ _ hSW ?_
          clear hK K'
          try simp only [List.getElem_toArray, List.getElem_cons_zero, List.getElem_cons_succ, Act.put, List.setIfInBounds_toArray, List.set_cons_zero, List.set_cons_succ]
          refine wpAnyH_take (i := 17) (v := ?_) rfl (by kernel_rfl) (by kernel_rfl) (by kernel_rfl) (fun _ _ _ h => h) (Or.inl ⟨by kernel_rfl, ?_⟩) (by assumption) ?_
          rotate_left
          · intro Wt hSt
            go_simp
            try with_reducible rfl
          try simp only [List.getElem_toArray, List.getElem_cons_zero, List.getElem_cons_succ, Act.put, List.setIfInBounds_toArray, List.set_cons_zero, List.set_cons_succ]
          refine wpAnyH_take (i := 18) (v := ?_) rfl (by kernel_rfl) (by kernel_rfl) (by kernel_rfl) (fun _ _ _ h => h) (Or.inl ⟨by kernel_rfl, ?_⟩) (by assumption) ?_
          rotate_left
          · intro Wt hSt
            go_simp
            try with_reducible rfl
          try simp only [List.getElem_toArray, List.getElem_cons_zero, List.getElem_cons_succ, Act.put, List.setIfInBounds_toArray, List.set_cons_zero, List.set_cons_succ]
          refine wpAnyH_chainOf [19] _ _ _ (by kernel_rfl) (by kernel_rfl) ?_
          simp only [List.filterMap_cons, List.filterMap_nil, List.getElem?_toArray, List.getElem?_cons_zero, List.getElem?_cons_succ]
          refine wpChain_step rfl fun K' hK => ?_
          go_simp
          have hs9 : RPB (W.setCell ⟨N, k8, none⟩ (.int .u64 (X aa (sh cv s8)))) g q := RPB.grown hSW (grown_one W _ _ _) (unhide HNE).2.2.2
          refine hK _ _ hs9 (wpChain_nil ?_)
          clear hK K' hs9
          go_wp2_with fail
          go_roundg g2
          case measure => omega
          case rel =>
            have h := unhide HNS
            have hk := (unhide HKW).set h.2.2.k1 (X aa (sh cv s8))
            refine ⟨i + 1, rfl, by omega, ?_, (unhide HSW).grown (unhide HNE) (grown_one W _ _ _)⟩
            rw [← aR_step F q n0 i h.2.1]
            rw [unhide HAA, unhide HCV, h.2.2.ej, h.2.2.es, h.2.2.ek] at hk
            rw [unhide HAA, unhide HCV, h.2.2.ej, h.2.2.es, h.2.2.ek]
            exact hk
        · have i1 : ¬ (i : Int) < 136 := by omega
          obtain rfl : i = 136 := by omega
          clear hig hi
          have HKG := hide ((unhide HK).fn (fun j _ => addR_eq F (qsF q n0) (qsF_byt q n0 (unhide HBY)) j 17))
          obtain ⟨G, hG⟩ : ∃ G, G = addF F (qsF q n0) 17 := ⟨_, rfl⟩
          rw [← hG] at HKG
          have HG := hide hG
          clear HK hG
          go_wp2_with fail
          go_loopg [9] 24 (fun g9 y9 wx => ∃ i : Nat, y9 = .int .i64 (i : Int) ∧ i + g9 = 24 ∧ KAt .u64 25 wx N 110 (permN G i) ∧ SW w b4 b5 g q wx)
          case atStart => exact ⟨0, rfl, by omega, unhide HKG, unhide HS⟩
          case round =>
            clear HKG HS
            obtain ⟨i, rfl, hig, hk, hs⟩ := hrel
            have HK := hide hk; have HS := hide hs
            clear hk hs
            by_cases hi : i < 24
            · obtain ⟨g2, rfl⟩ : ∃ g, gk = g + 1 := ⟨gk - 1, by omega⟩
              have i1 : (i : Int) < 24 := by omega
              have i0 : (0 : Int) ≤ (i : Int) := Int.natCast_nonneg _
              have wi : IntKind.i64.wrap ((i : Int) + 1) = ((i + 1 : Nat) : Int) := (IntWalk.i64_in _ (by omega)).trans (by omega)
              obtain ⟨kk, hkk⟩ : ∃ kk, kk = constT.getD i 0 := ⟨_, rfl⟩
              have HNI : Hid (i + (g2 + 1) = 24 ∧ i < 24 ∧ kk = constT.getD i 0) := ⟨hig, hi, hkk⟩
              clear hig hi hkk
              go_wp2_with fail
              obtain ⟨W, hW⟩ : ∃ W, W = wr.drewN 1 := ⟨_, rfl⟩
              have HW : Hid (W = wr.drewN 1) := hW
              have HKW := hide ((unhide HK).keep (below_named HW))
              have hSW : SW w b4 b5 g q W := (unhide HS).keep (below_named HW)
              obtain ⟨cu, hcu⟩ : ∃ cu, cu = kc .u64 25 (permN G i) := ⟨_, rfl⟩
              obtain ⟨cz, hcz⟩ : ∃ cz, cz = kc .i64 25 (rT 24) := ⟨_, rfl⟩
              have HRU : Hid (W.rangeAt N 0 cu ∧ cu.length = 25) := by rw [hcu]; exact ⟨(unhide HKW).range, kc_length _ _ _⟩
              have HRZ : Hid (W.rangeAt b4 0 cz ∧ cz.length = 25) := by rw [hcz]; exact ⟨hSW.t.range, kc_length _ _ _⟩
              have HRD : Hid (Calls Tryd.prog 93 #[.agg cu.toArray, .agg cz.toArray, .int .u64 kk] W fun x w' => x = .returned (kv .u64 25 (rndR (permN G i) kk)) ∧ Below W.heap.size W w') := by
                rw [hcu, hcz]; exact rround_any W (permN G i) kk
              have hfk : ∀ V, SW w b4 b5 g q V → V.cell? ⟨b5, i, none⟩ = some (.int .u64 kk) := fun V hV => by
                rw [(unhide HNI).2.2]; exact hV.k.cell (unhide HNI).2.1
              clear hW HK HS hcu hcz
              refine held (S := fun V => SW w b4 b5 g q V) W HW (by kernel_rfl) ?_
              refine wpAnyH_take (i := 2) (v := ?_) rfl (by kernel_rfl) (by kernel_rfl) (by kernel_rfl) (fun _ _ _ h => h) (Or.inl ⟨by kernel_rfl, ?_⟩) (by assumption) ?_
              rotate_left
              · intro Wt hSt
                go_simp
                try with_reducible rfl
              try simp only [List.getElem_toArray, List.getElem_cons_zero, List.getElem_cons_succ, Act.put, List.setIfInBounds_toArray, List.set_cons_zero, List.set_cons_succ]
              refine wpAnyH_take (i := 3) (v := ?_) rfl (by kernel_rfl) (by kernel_rfl) (by kernel_rfl) (fun _ _ _ h => h) (Or.inl ⟨by kernel_rfl, ?_⟩) (by assumption) ?_
              rotate_left
              · intro Wt hSt
                go_simp
                try with_reducible rfl
              try simp only [List.getElem_toArray, List.getElem_cons_zero, List.getElem_cons_succ, Act.put, List.setIfInBounds_toArray, List.set_cons_zero, List.set_cons_succ]
              refine wpAnyH_take (i := 4) (v := ?_) rfl (by kernel_rfl) (by kernel_rfl) (by kernel_rfl) (fun _ _ _ h => h) (Or.inl ⟨by kernel_rfl, ?_⟩) (by assumption) ?_
              rotate_left
              · intro Wt hSt
                go_simp
                try with_reducible rfl
              try simp only [List.getElem_toArray, List.getElem_cons_zero, List.getElem_cons_succ, Act.put, List.setIfInBounds_toArray, List.set_cons_zero, List.set_cons_succ]
              refine wpAnyH_two 0 1 _ _ rfl rfl (by kernel_rfl) (by kernel_rfl) (by kernel_rfl) ?_ ?_
              · intro K' hK
                refine wp_load_mid 110 (.tmp 3) rfl N 0 rfl cu _ (unhide HRU).1 Tryd.underlying110 rfl (by rw [(unhide HRU).2]; exact infoS) ?_
                refine hK _ _ hSW ?_
                clear hK K'
                try simp only [List.getElem_toArray, List.getElem_cons_zero, List.getElem_cons_succ, Act.put, List.setIfInBounds_toArray, List.set_cons_zero, List.set_cons_succ]
                refine wpAnyH_one 1 _ rfl (by kernel_rfl) (by kernel_rfl) ?_
                intro K' hK
                refine wp_load_mid 111 (.tmp 4) rfl b4 0 rfl cz _ (unhide HRZ).1 Tryd.underlying111 rfl (by rw [(unhide HRZ).2]; exact infoT25) ?_
                refine hK _ _ hSW ?_
                clear hK K'
                try simp only [List.getElem_toArray, List.getElem_cons_zero, List.getElem_cons_succ, Act.put, List.setIfInBounds_toArray, List.set_cons_zero, List.set_cons_succ]
                refine wpAnyH_one 5 _ rfl (by kernel_rfl) (by kernel_rfl) ?_
                intro K' hK
                go_simp
                refine (unhide HRD).mono ?_; rintro e0 V ⟨rfl, hb⟩
                have hSV := SW.keep hSW hb
                have HKV := hide ((unhide HKW).keep hb)
                obtain ⟨ce, hce⟩ : ∃ ce, ce = (kc .u64 25 (rndR (permN G i) kk)).toArray := ⟨_, rfl⟩
                rw [show kv .u64 25 (rndR (permN G i) kk) = .agg ce by rw [hce]]
                have HCE := hide hce
                clear hce hb
                dsimp only
                refine hK _ _ hSV ?_
                clear hK K'
                try simp only [List.getElem_toArray, List.getElem_cons_zero, List.getElem_cons_succ, Act.put, List.setIfInBounds_toArray, List.set_cons_zero, List.set_cons_succ]
                refine wpAnyH_chainOf [6] _ _ _ (by kernel_rfl) (by kernel_rfl) ?_
                simp only [List.filterMap_cons, List.filterMap_nil, List.getElem?_toArray, List.getElem?_cons_zero, List.getElem?_cons_succ]
                refine wpChain_kstore rfl 110 (.tmp 3) (.tmp 55) rfl N rfl .u64 25 (rndR (permN G i) kk) (show Value.agg ce = _ by rw [unhide HCE]) infoS _ (permN G i) (unhide HKV) ?_
                intro V2 HK2 HG2
                have HS2 := hide (SW.grown hSV (unhide HNE) (unhide HG2))
                refine ⟨unhide HS2, wpChain_nil ?_⟩
                clear hSV HKV HG2 hSW
                go_wp2_with fail
                go_roundg g2
                case measure => omega
                case rel =>
                  have h := unhide HNI
                  exact ⟨i + 1, rfl, by omega, (unhide HK2).fn (fun j hj => by rw [h.2.2]; exact rndR_eq (permN G i) i j hj), unhide HS2⟩
              · intro K' hK
                refine wp_load_mid 111 (.tmp 4) rfl b4 0 rfl cz _ (unhide HRZ).1 Tryd.underlying111 rfl (by rw [(unhide HRZ).2]; exact infoT25) ?_
                refine hK _ _ hSW ?_
                clear hK K'
                try simp only [List.getElem_toArray, List.getElem_cons_zero, List.getElem_cons_succ, Act.put, List.setIfInBounds_toArray, List.set_cons_zero, List.set_cons_succ]
                refine wpAnyH_one 0 _ rfl (by kernel_rfl) (by kernel_rfl) ?_
                intro K' hK
                refine wp_load_mid 110 (.tmp 3) rfl N 0 rfl cu _ (unhide HRU).1 Tryd.underlying110 rfl (by rw [(unhide HRU).2]; exact infoS) ?_
                refine hK _ _ hSW ?_
                clear hK K'
                try simp only [List.getElem_toArray, List.getElem_cons_zero, List.getElem_cons_succ, Act.put, List.setIfInBounds_toArray, List.set_cons_zero, List.set_cons_succ]
                refine wpAnyH_one 5 _ rfl (by kernel_rfl) (by kernel_rfl) ?_
                intro K' hK
                go_simp
                refine (unhide HRD).mono ?_; rintro e0 V ⟨rfl, hb⟩
                have hSV := SW.keep hSW hb
                have HKV := hide ((unhide HKW).keep hb)
                obtain ⟨ce, hce⟩ : ∃ ce, ce = (kc .u64 25 (rndR (permN G i) kk)).toArray := ⟨_, rfl⟩
                rw [show kv .u64 25 (rndR (permN G i) kk) = .agg ce by rw [hce]]
                have HCE := hide hce
                clear hce hb
                dsimp only
                refine hK _ _ hSV ?_
                clear hK K'
                try simp only [List.getElem_toArray, List.getElem_cons_zero, List.getElem_cons_succ, Act.put, List.setIfInBounds_toArray, List.set_cons_zero, List.set_cons_succ]
                refine wpAnyH_chainOf [6] _ _ _ (by kernel_rfl) (by kernel_rfl) ?_
                simp only [List.filterMap_cons, List.filterMap_nil, List.getElem?_toArray, List.getElem?_cons_zero, List.getElem?_cons_succ]
                refine wpChain_kstore rfl 110 (.tmp 3) (.tmp 55) rfl N rfl .u64 25 (rndR (permN G i) kk) (show Value.agg ce = _ by rw [unhide HCE]) infoS _ (permN G i) (unhide HKV) ?_
                intro V2 HK2 HG2
                have HS2 := hide (SW.grown hSV (unhide HNE) (unhide HG2))
                refine ⟨unhide HS2, wpChain_nil ?_⟩
                clear hSV HKV HG2 hSW
                go_wp2_with fail
                go_roundg g2
                case measure => omega
                case rel =>
                  have h := unhide HNI
                  exact ⟨i + 1, rfl, by omega, (unhide HK2).fn (fun j hj => by rw [h.2.2]; exact rndR_eq (permN G i) i j hj), unhide HS2⟩
            · have i1 : ¬ (i : Int) < 24 := by omega
              obtain rfl : i = 24 := by omega
              clear hig hi
              go_wp2_with fail
              go_roundg gg
              case measure => omega
              case rel =>
                have h := unhide HBM
                refine ⟨b + 1, rfl, by omega, (unhide HK).fn (fun j _ => ?_), unhide HS⟩
                rw [unhide HG, unhide HF, h.2.2.1]
                rfl
    · have n1 : ¬ (n0 : Int) < (pl : Int) := by have := unhide HQ; omega
      have HBM : Hid (b = m) := by show b = m; omega
      obtain ⟨Z, hZ⟩ : ∃ Z, Z = blkF (fun _ => 0) q b := ⟨_, rfl⟩
      rw [← hZ] at HK
      have HOUT : Hid (outF Z = hashF l) := by
        have h := unhide HQ
        show outF Z = hashF l
        rw [hZ, unhide HBM, h.1, h.2.1]
        exact (hashF_blk l).symm
      have HR := hide (unhide HS).r
      have HB := hide (unhide HS).b
      have HNN : Hid (w.heap.size < N) := (unhide HNE).1
      clear hbg hb hn0 hZ HS HNE HBY HQ HBM
      go_upto_region 16 with fail
      refine wp_region_lit ?_
      refine wpList_build0 rfl 24 rfl (dv zeros) (build_zero _) ?_
      obtain ⟨cd, hcd⟩ : ∃ cs, cs = (zeros.map (Value.int .u8)).toArray := ⟨_, rfl⟩
      rw [show dv zeros = .agg cd by rw [hcd]]
      have HCD := hide hcd
      clear hcd
      refine wpList_plain rfl fun Kt hKt => ?_
      go_simp
      refine hKt _ _ ?_
      clear hKt Kt
      generalize hX : wr.alloc _ = V1
      have hV1 : Below wr.heap.size wr V1 := hX ▸ (Below.refl _ _).alloc (Nat.le_refl _) _
      have HD1 := hide (newBy wr V1 (by rw [← hX]; rfl))
      have HK1 := hide ((unhide HK).keep hV1)
      have HR1 := hide ((unhide HR).keep hV1)
      have HB1 := hide (thenB (unhide HB) hV1)
      obtain ⟨M, hM⟩ : ∃ M, M = wr.heap.size := ⟨_, rfl⟩
      have HMN : Hid (N < M ∧ w.heap.size < M) := ⟨hM ▸ (unhide HK).lt, by have h1 := (unhide HK).lt; have h2 := unhide HNN; omega⟩
      rw [← hM] at HD1 ⊢
      clear hX hV1 hM HK HR HB
      refine wpList_bstore rfl 24 (.tmp 10) (.tmp 56) rfl M rfl zeros (show Value.agg cd = _ by rw [unhide HCD]) 32 info32 rfl _ zeros (unhide HD1) rfl ?_
      intro V2 HD2 HG2
      have HK2 := hide ((unhide HK1).grown (unhide HG2) (by have := unhide HMN; omega))
      have HR2 := hide ((unhide HR1).grown (unhide HG2) (by have := unhide HMN; omega))
      have HB2 := hide ((unhide HB1).grown (unhide HG2) (unhide HB1).size (fun i e => by injection e with e; have := unhide HMN; omega))
      clear HG2 HD1 HK1 HR1 HB1
      try simp only [List.getElem_toArray, List.getElem_cons_zero, List.getElem_cons_succ, Act.put, List.setIfInBounds_toArray, List.set_cons_zero, List.set_cons_succ]
      go_wp2_with fail
      go_loopg [11] 32 (fun g y11 wx => ∃ i : Nat, y11 = .int .i64 (i : Int) ∧ i + g = 32 ∧ ByAt wx M 24 (oL Z i) ∧ KAt .u64 25 wx N 110 Z ∧ ByAt wx w.heap.size 24 zeros ∧ Below w.heap.size w wx)
      case atStart => exact ⟨0, rfl, by omega, by rw [oL_zero]; exact unhide HD2, unhide HK2, unhide HR2, unhide HB2⟩
      case round =>
        clear HD2 HK2 HR2 HB2
        obtain ⟨i, rfl, hig, hd, hk, hr, hb⟩ := hrel
        have HD := hide hd; have HK := hide hk; have HR := hide hr; have HB := hide hb
        clear hd hk hr hb
        by_cases hi : i < 32
        · obtain ⟨g2, rfl⟩ : ∃ g, gk = g + 1 := ⟨gk - 1, by omega⟩
          have i1 : (i : Int) < 32 := by omega
          have i0 : (0 : Int) ≤ (i : Int) := Int.natCast_nonneg _
          have wi : IntKind.i64.wrap ((i : Int) + 1) = ((i + 1 : Nat) : Int) := (IntWalk.i64_in _ (by omega)).trans (by omega)
          obtain ⟨k8, r8, s8, j, ns⟩ := ns_mk i 0 136 (by omega) (by omega) (by omega)
          have HNS : Hid (i + (g2 + 1) = 32 ∧ i < 32 ∧ NS i 0 136 k8 r8 s8 j) := ⟨hig, hi, ns⟩
          have tq := ns.tq
          have wq := ns.wq
          have tm := ns.tm
          have ws := ns.ws
          have k0 : (0 : Int) ≤ (k8 : Int) := Int.natCast_nonneg _
          have k1 : (k8 : Int) < 25 := lt_int ns.k1
          have s0 : (0 : Int) ≤ (s8 : Int) := Int.natCast_nonneg _
          have hs1 := shift_shr .u64 .i64 (Z k8) (s8 : Int) s0 (by simp [IntKind.bits]; have := lt_int ns.s1; omega)
          rw [Int.toNat_natCast] at hs1
          have hcC := (unhide HK).cell ns.k1
          have hcD := (unhide HD).cell (j := i) (by rw [oL_length]; exact hi)
          have hcF := (unhide HD).free i
          clear hig hi ns
          go_wp2_with fail
          go_roundg g2
          case measure => omega
          case rel =>
            have h := unhide HNS
            have hset := (unhide HD).set i (IntKind.u8.wrap (Z k8 / 2 ^ s8))
            refine ⟨i + 1, rfl, by omega, ?_, (unhide HK).grown (grown_one wr M _ _) (by have := unhide HMN; omega), (unhide HR).grown (grown_one wr M _ _) (by have := unhide HMN; omega), (unhide HB).grown (grown_one wr M _ _) (unhide HB).size (fun i e => by injection e with e; have := unhide HMN; omega)⟩
            rw [← oL_step Z i h.2.1]
            rw [h.2.2.ek, h.2.2.es] at hset
            rw [h.2.2.ek, h.2.2.es]
            exact hset
        · have i1 : ¬ (i : Int) < 32 := by omega
          obtain rfl : i = 32 := by omega
          clear hig hi
          rw [oL_end, unhide HOUT] at HD
          go_upto_region 21 with fail
          refine wp_region_lit ?_
          refine wpList_bload rfl 24 (.tmp 10) rfl M rfl _ Tryd.underlying24 rfl 32 info32 _ (hashF l) (unhide HD) (hashF_length _) ?_
          refine wpList_bstore rfl 24 (.tmp 2) (.tmp 72) rfl w.heap.size rfl (hashF l) rfl 32 info32 (hashF_length _) _ zeros (unhide HR) rfl ?_
          intro V9 HV9 HG9
          have HB9 := hide ((unhide HB).grown (unhide HG9) (unhide HB).size (fun i e => by injection e with e; omega))
          obtain ⟨ch, hch⟩ : ∃ cs, cs = ((hashF l).map (Value.int .u8)).toArray := ⟨_, rfl⟩
          rw [show dv (hashF l) = .agg ch by rw [hch]]
          clear HG9 HD HK HR HB
          try simp only [List.getElem_toArray, List.getElem_cons_zero, List.getElem_cons_succ, Act.put, List.setIfInBounds_toArray, List.set_cons_zero, List.set_cons_succ]
          go_wp2_with fail
          try simp only [Exit.inBlock, Exit.then]
          exact bret rfl rfl w.heap.size rfl _ _ (unhide HV9) (hashF_length _) ⟨by first | rfl | rw [hch], unhide HB9⟩
end Go.Proofs.YtceppmajbkmbdaaDoor
