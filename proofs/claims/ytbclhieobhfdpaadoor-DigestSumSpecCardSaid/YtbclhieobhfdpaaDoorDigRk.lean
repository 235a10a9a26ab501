/- Contracts over the digest's reference: arrays of integers in memory; at, rol. -/
import Derived.Test.YtbclhieobhfdpaaDoorDigSane
namespace Go.Proofs.YtbclhieobhfdpaaDoor
set_option linter.unusedSimpArgs false
set_option linter.unusedVariables false
open Go.RowKit

/-- n integers of a kind -/
def kc (k : IntKind) (n : Nat) (f : Nat → Int) : List Value := (List.range n).map fun j => Value.int k (f j)
abbrev kv (k : IntKind) (n : Nat) (f : Nat → Int) : Value := .agg (kc k n f).toArray
def KAt (k : IntKind) (n : Nat) (w : World) (b : Nat) (t : TypeId) (f : Nat → Int) : Prop := w.heap[b]? = some (.cells (kc k n f).toArray t (0, 0))
theorem kc_length (k : IntKind) (n : Nat) (f : Nat → Int) : (kc k n f).length = n := by simp [kc]
theorem kc_get {k : IntKind} {n : Nat} {f : Nat → Int} {j : Nat} (h : j < n) : (kc k n f)[j]? = some (.int k (f j)) := by
  unfold kc
  rw [List.getElem?_map, List.getElem?_range h]
  rfl
theorem kc_congr {k : IntKind} {n : Nat} {f g : Nat → Int} (e : ∀ j, j < n → f j = g j) : kc k n f = kc k n g := by
  unfold kc
  exact List.map_congr_left fun j hj => by rw [e j (by simpa using hj)]
theorem kc_set {k : IntKind} {n : Nat} {f : Nat → Int} {j : Nat} (h : j < n) (v : Int) : (kc k n f).toArray.setIfInBounds j (.int k v) = (kc k n (upd f j v)).toArray := by
  rw [List.setIfInBounds_toArray]
  congr 1
  apply List.ext_getElem?
  intro i
  rw [List.getElem?_set, kc_length]
  by_cases hi : i < n
  · rw [kc_get hi]
    by_cases hij : j = i
    · subst hij; rw [if_pos rfl, if_pos h, kc_get h]; simp [upd]
    · rw [if_neg hij, kc_get hi]; simp [upd, Ne.symm hij]
  · have hji : ¬ j = i := fun e => hi (e ▸ h)
    rw [if_neg hji, List.getElem?_eq_none (by rw [kc_length]; omega), List.getElem?_eq_none (by rw [kc_length]; omega)]
section
variable {k : IntKind} {n : Nat} {w w' : World} {b : Nat} {t : TypeId} {f g : Nat → Int}
theorem KAt.lt (h : KAt k n w b t f) : b < w.heap.size := lt_of_block h
theorem KAt.cell (h : KAt k n w b t f) {j : Nat} (hj : j < n) : w.cell? ⟨b, j, none⟩ = some (.int k (f j)) := by
  unfold KAt at h
  simp only [World.cell?, h]
  rw [List.getElem?_toArray]
  exact kc_get hj
theorem KAt.free (h : KAt k n w b t f) (j : Nat) : w.frozen? ⟨b, j, none⟩ = false := by
  unfold KAt at h
  simp [World.frozen?, h]
theorem KAt.set (h : KAt k n w b t f) {j : Nat} (hj : j < n) (v : Int) : KAt k n (w.setCell ⟨b, j, none⟩ (.int k v)) b t (upd f j v) := by
  unfold KAt at h ⊢
  rw [box_put h, kc_set hj]
theorem KAt.fn (h : KAt k n w b t f) (e : ∀ j, j < n → f j = g j) : KAt k n w b t g := by
  unfold KAt at h ⊢
  rw [h, kc_congr e]
theorem KAt.keep (h : KAt k n w b t f) (hb : Below w.heap.size w w') : KAt k n w' b t f := (hb.block b h.lt).trans h
theorem KAt.grown {nb : Nat} (h : KAt k n w b t f) (hb : w.grownBy w' (some nb)) (hne : b ≠ nb) : KAt k n w' b t f := (hb.block b h.lt (fun e => by injection e with e; exact hne e)).trans h
theorem KAt.range (h : KAt k n w b t f) : w.rangeAt b 0 (kc k n f) := fun j v hv => by
  have hj : j < n := by have := (List.getElem?_eq_some_iff.1 hv).1; rwa [kc_length] at this
  rw [Nat.zero_add, h.cell hj, ← hv, kc_get hj]
theorem KAt.there (h : KAt k n w b t f) : w.there b 0 n := fun j hj => by
  rw [Nat.zero_add]
  exact ⟨by rw [h.cell hj]; rfl, h.free j⟩
theorem kc_one (k : IntKind) (n : Nat) (f : Nat → Int) : ((kc k n f).toArray).all (·.oneCell') = true := all_oneCell_toArray fun v hv => by
  obtain ⟨x, _, rfl⟩ := List.mem_map.1 hv; rfl
theorem kset_cells {k : IntKind} {g : Nat → Int} {b : Nat} {t : TypeId} : ∀ (m : Nat) (w : World) (cs0 : List Value) (i : Nat), w.heap[b]? = some (.cells cs0.toArray t (0, 0)) → i + m = cs0.length →
    (w.setCells b i ((List.range' i m).map fun j => Value.int k (g j))).heap[b]? = some (.cells (cs0.take i ++ (List.range' i m).map fun j => Value.int k (g j)).toArray t (0, 0))
  | 0, w, cs0, i, h, hl => by
    have e : w.setCells b i ((List.range' i 0).map fun j => Value.int k (g j)) = w := rfl
    rw [e, h]
    simp [List.take_of_length_le (show cs0.length ≤ i by omega)]
  | m + 1, w, cs0, i, h, hl => by
    rw [List.range'_succ, List.map_cons]
    simp only [World.setCells]
    have h1 := box_put (i := i) (v := Value.int k (g i)) h
    rw [List.setIfInBounds_toArray] at h1
    have h2 := kset_cells (k := k) (g := g) m _ (cs0.set i (.int k (g i))) (i + 1) h1 (by simp; omega)
    rw [h2]
    have e1 : (cs0.set i (.int k (g i))).take (i + 1) = cs0.take i ++ [Value.int k (g i)] := by
      apply List.ext_getElem?
      intro j
      rw [List.getElem?_take, List.getElem?_set, List.getElem?_append, List.length_take, List.getElem?_take, Nat.min_eq_left (by omega)]
      by_cases hj : j < i
      · rw [if_pos (by omega), if_neg (by omega), if_pos hj, if_pos hj]
      · by_cases hj2 : j = i
        · subst hj2; simp; omega
        · rw [if_neg (by omega), if_neg hj, List.getElem?_eq_none (by simp; omega)]
    rw [e1, List.append_assoc, List.singleton_append]
theorem KAt.setAll (h : KAt k n w b t f) (g : Nat → Int) : KAt k n (w.setCells b 0 (kc k n g)) b t g := by
  have := kset_cells (k := k) (g := g) n w (kc k n f) 0 h (by rw [kc_length]; omega)
  unfold KAt kc
  rw [List.range_eq_range']
  simpa using this
end
def AnyW3 (_ : World) : Prop := True
theorem wpList_kstore {P : Program} {ops : Array Oper} {rest : List Oper} {o : Oper} {a : Act} {w : World} {Q : Exit → Act → World → Prop} (hgd : o.guard = none) (ty : TypeId) (x y : Operand) (ho : o.op = .store ty x y)
    (N : Nat) (hx : a.eval x = .pointer (some ⟨N, 0, none⟩)) (k : IntKind) (n : Nat) (g : Nat → Int) (hy : a.eval y = kv k n g) (hi : (P.info? ty).map (·.size) = some n) (T : TypeId) (f : Nat → Int) (h0 : KAt k n w N T f)
    (h : ∀ W, Hid (KAt k n W N T g) → Hid (w.grownBy W (some N)) → wpList P ops Q rest (a.put o.dst undef) W) : wpList P ops Q (o :: rest) a w :=
  wpList_store_mid hgd ty x y ho N 0 (kc k n g).toArray hx hy (by rw [List.size_toArray, kc_length]; exact h0.there) (by rw [List.size_toArray, kc_length]; exact hi) (kc_one k n g) (h _ (h0.setAll g) (grownSetCells N _ _ w))
theorem wpList_kload {P : Program} {ops : Array Oper} {rest : List Oper} {o : Oper} {a : Act} {w : World} {Q : Exit → Act → World → Prop} (hgd : o.guard = none) (ty : TypeId) (x : Operand) (ho : o.op = .load ty x)
    (N : Nat) (hx : a.eval x = .pointer (some ⟨N, 0, none⟩)) (d : TypeDesc) (hu : P.underlying ty = some d) (hd : d.isRow = true) (k : IntKind) (n : Nat) (hi : (P.info? ty).map (·.size) = some n) (T : TypeId) (f : Nat → Int) (h0 : KAt k n w N T f)
    (h : wpList P ops Q rest (a.put o.dst (kv k n f)) w) : wpList P ops Q (o :: rest) a w :=
  wpList_load_mid hgd ty x ho N 0 hx (kc k n f) d h0.range hu hd (by rw [kc_length]; exact hi) h
theorem kret {fn : Func} {R : Ending → World → Prop} {a : Act} {w : World} {t : Tmp} {ty : TypeId} (h : fn.results = #[.cell t ty]) (hd : a.defers = []) (N : Nat) (hp : a.tmps.getD t undef = .pointer (some ⟨N, 0, none⟩)) (k : IntKind) (n : Nat) (T : TypeId) (f : Nat → Int) (h0 : KAt k n w N T f) (d : TypeDesc) (hu : Tryd.prog.underlying ty = some d) (hr : d.isRow = true) (hi : (Tryd.prog.info? ty).map (·.size) = some n) (hR : R (.returned (kv k n f)) w) :
    bodyPost Tryd.prog fn R .ret a w :=
  bodyPost_ret (v := kv k n f) (results_cell_mid h _ _ N (kc k n f) _ hp h0.range hu hr (by rw [kc_length]; exact hi)) hd hR

set_option maxHeartbeats 1000000 in
theorem rat_any (x y : Int) (hx : -5 ≤ x ∧ x ≤ 1000) (hy : -5 ≤ y ∧ y ≤ 1000) (w : World) :
    Calls Tryd.prog 53 #[.int .i64 x, .int .i64 y] w fun e w' => e = .returned (.int .i64 (5 * (y % 5) + x % 5)) ∧ w' = w := by
  have w1 : IntKind.i64.wrap (y + 5) = y + 5 := IntWalk.i64_in _ (by omega)
  have w2 : IntKind.i64.wrap (x + 5) = x + 5 := IntWalk.i64_in _ (by omega)
  have t1 : (y + 5).tmod 5 = y % 5 := (Int.tmod_eq_emod_of_nonneg (by omega)).trans (by omega)
  have t2 : (x + 5).tmod 5 = x % 5 := (Int.tmod_eq_emod_of_nonneg (by omega)).trans (by omega)
  have w3 : IntKind.i64.wrap (5 * (y % 5)) = 5 * (y % 5) := IntWalk.i64_in _ (by omega)
  have w4 : IntKind.i64.wrap (5 * (y % 5) + x % 5) = 5 * (y % 5) + x % 5 := IntWalk.i64_in _ (by omega)
  clear hx hy
  go_enter Tryd.func53, Tryd.ntmps53
  go_wp2_with fail
  go_ret
  exact ⟨rfl, rfl⟩
/-- a rotation by a number below 64, 0 with them -/
def rolR (v : Int) (n : Nat) : Int := if n = 0 then v else rol v n
set_option maxHeartbeats 1000000 in
theorem rrol_any (v : Int) (n : Nat) (h : n < 64) (w : World) :
    Calls Tryd.prog 54 #[.int .u64 v, .int .i64 (n : Int)] w fun e w' => e = .returned (.int .u64 (rolR v n)) ∧ Below w.heap.size w w' := by
  have t1 : (n : Int).tmod 64 = (n : Int) := (Int.tmod_eq_emod_of_nonneg (by omega)).trans (by omega)
  have hn0 : (0 : Int) ≤ (n : Int) := Int.natCast_nonneg _
  have hn1 : (n : Int) < 64 := by omega
  have hw : IntKind.i64.wrap (64 - (n : Int)) = 64 - (n : Int) := IntWalk.i64_in _ (by omega)
  have hs1 := shift_shl .u64 .i64 v (n : Int) hn0 (by simp [IntKind.bits]; omega)
  by_cases h0 : n = 0
  · subst h0
    have e : rolR v 0 = v := if_pos rfl
    rw [e]
    clear h hn1 hn0 hw hs1 e
    go_enter Tryd.func54, Tryd.ntmps54
    go_wp2_with fail
    go_ret
    exact ⟨rfl, Below.refl _ _⟩
  · have hs2 := shift_shr .u64 .i64 v (64 - (n : Int)) (by omega) (by simp [IntKind.bits]; omega)
    have ht : (64 - (n : Int)).toNat = 64 - n := by omega
    rw [ht] at hs2
    have e : rolR v n = rol v n := if_neg h0
    rw [e]
    have i0 : ¬ (n : Int) = 0 := by omega
    clear ht h h0 e
    go_enter Tryd.func54, Tryd.ntmps54
    go_wp2_with fail
    obtain ⟨W, hW⟩ : ∃ W, W = w.drewN 1 := ⟨_, rfl⟩
    have HW : Hid (W = w.drewN 1) := hW
    have hSW : AnyW3 W := trivial
    clear hW
    refine held (S := AnyW3) W HW (by kernel_rfl) ?_
    refine wpAnyH_take (i := 0) (v := ?_) rfl (by kernel_rfl) (by kernel_rfl) (by kernel_rfl) (fun _ _ _ h => h) (Or.inl ⟨by kernel_rfl, ?_⟩) (by assumption) ?_
    rotate_left
    · intro Wt hSt
      go_simp
      try with_reducible rfl
    try simp only [List.getElem_toArray, List.getElem_cons_zero, List.getElem_cons_succ, Act.put, List.setIfInBounds_toArray, List.set_cons_zero, List.set_cons_succ]
    refine wpAnyH_take (i := 1) (v := ?_) rfl (by kernel_rfl) (by kernel_rfl) (by kernel_rfl) (fun _ _ _ h => h) (Or.inl ⟨by kernel_rfl, ?_⟩) (by assumption) ?_
    rotate_left
    · intro Wt hSt
      go_simp
      try with_reducible rfl
    try simp only [List.getElem_toArray, List.getElem_cons_zero, List.getElem_cons_succ, Act.put, List.setIfInBounds_toArray, List.set_cons_zero, List.set_cons_succ]
    refine wpAnyH_take (i := 2) (v := ?_) rfl (by kernel_rfl) (by kernel_rfl) (by kernel_rfl) (fun _ _ _ h => h) (Or.inl ⟨by kernel_rfl, ?_⟩) (by assumption) ?_
    rotate_left
    · intro Wt hSt
      go_simp
      try with_reducible rfl
    try simp only [List.getElem_toArray, List.getElem_cons_zero, List.getElem_cons_succ, Act.put, List.setIfInBounds_toArray, List.set_cons_zero, List.set_cons_succ]
    refine wpAnyH_take (i := 3) (v := ?_) rfl (by kernel_rfl) (by kernel_rfl) (by kernel_rfl) (fun _ _ _ h => h) (Or.inl ⟨by kernel_rfl, ?_⟩) (by assumption) ?_
    rotate_left
    · intro Wt hSt
      go_simp
      try with_reducible rfl
    try simp only [List.getElem_toArray, List.getElem_cons_zero, List.getElem_cons_succ, Act.put, List.setIfInBounds_toArray, List.set_cons_zero, List.set_cons_succ]
    refine wpAnyH_take (i := 4) (v := ?_) rfl (by kernel_rfl) (by kernel_rfl) (by kernel_rfl) (fun _ _ _ h => h) (Or.inl ⟨by kernel_rfl, ?_⟩) (by assumption) ?_
    rotate_left
    · intro Wt hSt
      go_simp
      try with_reducible rfl
    try simp only [List.getElem_toArray, List.getElem_cons_zero, List.getElem_cons_succ, Act.put, List.setIfInBounds_toArray, List.set_cons_zero, List.set_cons_succ]
    refine wpAnyH_take (i := 5) (v := ?_) rfl (by kernel_rfl) (by kernel_rfl) (by kernel_rfl) (fun _ _ _ h => h) (Or.inl ⟨by kernel_rfl, ?_⟩) (by assumption) ?_
    rotate_left
    · intro Wt hSt
      go_simp
      try with_reducible rfl
    try simp only [List.getElem_toArray, List.getElem_cons_zero, List.getElem_cons_succ, Act.put, List.setIfInBounds_toArray, List.set_cons_zero, List.set_cons_succ]
    refine wpAnyH_take (i := 6) (v := ?_) rfl (by kernel_rfl) (by kernel_rfl) (by kernel_rfl) (fun _ _ _ h => h) (Or.inl ⟨by kernel_rfl, ?_⟩) (by assumption) ?_
    rotate_left
    · intro Wt hSt
      go_simp
      try with_reducible rfl
    try simp only [List.getElem_toArray, List.getElem_cons_zero, List.getElem_cons_succ, Act.put, List.setIfInBounds_toArray, List.set_cons_zero, List.set_cons_succ]
    refine wpAnyH_take (i := 7) (v := ?_) rfl (by kernel_rfl) (by kernel_rfl) (by kernel_rfl) (fun _ _ _ h => h) (Or.inl ⟨by kernel_rfl, ?_⟩) (by assumption) ?_
    rotate_left
    · intro Wt hSt
      go_simp
      try with_reducible rfl
    try simp only [List.getElem_toArray, List.getElem_cons_zero, List.getElem_cons_succ, Act.put, List.setIfInBounds_toArray, List.set_cons_zero, List.set_cons_succ]
    refine wpAnyH_take (i := 8) (v := ?_) rfl (by kernel_rfl) (by kernel_rfl) (by kernel_rfl) (fun _ _ _ h => h) (Or.inl ⟨by kernel_rfl, ?_⟩) (by assumption) ?_
    rotate_left
    · intro Wt hSt
      go_simp
      try with_reducible rfl
    try simp only [List.getElem_toArray, List.getElem_cons_zero, List.getElem_cons_succ, Act.put, List.setIfInBounds_toArray, List.set_cons_zero, List.set_cons_succ]
    refine wpAnyH_chainOf [] _ _ _ (by kernel_rfl) (by kernel_rfl) ?_
    refine wpChain_nil ?_
    have HB := hide (below_named HW)
    clear hSW
    go_wp2_with fail
    go_ret
    exact ⟨rfl, unhide HB⟩
end Go.Proofs.YtbclhieobhfdpaaDoor
