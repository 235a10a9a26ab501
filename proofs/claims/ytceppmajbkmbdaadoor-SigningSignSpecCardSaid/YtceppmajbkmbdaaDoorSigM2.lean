/- Contracts over the program of signing: the places of all bits; the hashes that a signature shows. Contracts over the program of signing: the hashes that a signature shows. Contracts over the program of signing: Sign, the signature in the making; keys that sign nothing. Contracts over the program of signing: Sign. -/
import Derived.Test.YtceppmajbkmbdaaDoorSigH
import Derived.Test.YtceppmajbkmbdaaDoorDigGrew1
import Derived.Test.YtceppmajbkmbdaaDoorDigGrowP
import Derived.Test.YtceppmajbkmbdaaDoorDigTop
import Derived.Test.YtceppmajbkmbdaaDoorDigTwo
import Derived.Deep.DeepCutAuto
namespace Go.Proofs.YtceppmajbkmbdaaDoor
set_option linter.unusedSimpArgs false
set_option linter.unusedVariables false
open Go.RowKit

def plS (bits : List Bool) (k : Nat) : List Int := (List.range k).flatMap fun (j : Nat) => [((j : Nat) : Int), ((bitAt bits j : Nat) : Int)]
theorem plS_succ (bits : List Bool) (k : Nat) : plS bits (k + 1) = plS bits k ++ [(k : Int), (bitAt bits k : Int)] := by
  unfold plS
  rw [List.range_succ, List.flatMap_append]
  simp
theorem plS_length (bits : List Bool) (k : Nat) : (plS bits k).length = 2 * k := by
  induction k with
  | zero => rfl
  | succ k ih => rw [plS_succ, List.length_append, ih]; simp; omega
theorem bitAt_le (bits : List Bool) (j : Nat) : bitAt bits j ≤ 1 := bN_le _
theorem plS_byt (bits : List Bool) (k : Nat) (hk : k ≤ 64) : ∀ c ∈ plS bits k, Byt c := fun c hc => by
  obtain ⟨j, hj, hm⟩ := List.mem_flatMap.1 hc
  have hj' := List.mem_range.1 hj
  have := bitAt_le bits j
  simp only [List.mem_cons, List.not_mem_nil, or_false] at hm
  unfold Byt
  rcases hm with rfl | rfl <;> omega
theorem plS_get (bits : List Bool) (k j : Nat) (h : j < k) : (plS bits k)[2 * j]? = some (j : Int) ∧ (plS bits k)[2 * j + 1]? = some (bitAt bits j : Int) := by
  induction k with
  | zero => omega
  | succ k ih =>
    rw [plS_succ]
    by_cases hj : j < k
    · rw [List.getElem?_append_left (by rw [plS_length]; omega), List.getElem?_append_left (by rw [plS_length]; omega)]
      exact ih hj
    · obtain rfl : j = k := by omega
      rw [List.getElem?_append_right (by rw [plS_length]; omega), List.getElem?_append_right (by rw [plS_length]; omega), plS_length]
      rw [show 2 * j - 2 * j = 0 by omega, show 2 * j + 1 - 2 * j = 1 by omega]
      exact ⟨rfl, rfl⟩
/-- the cells of the array after k places -/
def plC (bits : List Bool) (k : Nat) : List Value := (plS bits k).map (Value.int .u8) ++ List.replicate (128 - 2 * k) (Value.int .u8 0)
theorem plC_length (bits : List Bool) (k : Nat) (h : k ≤ 64) : (plC bits k).length = 128 := by
  unfold plC
  rw [List.length_append, List.length_map, plS_length, List.length_replicate]
  omega
theorem spliceV_at (P X R Y : List Value) (m : Nat) (hm : m = P.length) (h : X.length = Y.length) : spliceV (P ++ (X ++ R)) Y m = P ++ (Y ++ R) := by
  subst hm
  unfold spliceV
  rw [List.take_left, ← h, ← List.length_append, ← List.append_assoc P X R, List.drop_left]
theorem plC_split (bits : List Bool) (k : Nat) (h : k < 64) : plC bits k = (plS bits k).map (Value.int .u8) ++ ([.int .u8 0, .int .u8 0] ++ List.replicate (128 - 2 * (k + 1)) (Value.int .u8 0)) := by
  unfold plC
  rw [show 128 - 2 * k = 128 - 2 * (k + 1) + 1 + 1 by omega, List.replicate_succ, List.replicate_succ]
  rfl
theorem plC_put (bits : List Bool) (k : Nat) (h : k < 64) (b : Int) : spliceV (plC bits k) [.int .u8 (k : Int), .int .u8 b] (2 * k) = (plS bits k).map (Value.int .u8) ++ ([.int .u8 (k : Int), .int .u8 b] ++ List.replicate (128 - 2 * (k + 1)) (Value.int .u8 0)) := by
  rw [plC_split bits k h]
  exact spliceV_at _ _ _ _ _ (by rw [List.length_map, plS_length]) rfl
theorem plC_put2 (bits : List Bool) (k : Nat) (a b : Int) (R : List Value) : spliceV ((plS bits k).map (Value.int .u8) ++ ([.int .u8 (k : Int), .int .u8 a] ++ R)) [.int .u8 (k : Int), .int .u8 b] (2 * k) = (plS bits k).map (Value.int .u8) ++ ([.int .u8 (k : Int), .int .u8 b] ++ R) :=
  spliceV_at _ _ _ _ _ (by rw [List.length_map, plS_length]) rfl
theorem plC_next (bits : List Bool) (k : Nat) : (plS bits k).map (Value.int .u8) ++ ([.int .u8 (k : Int), .int .u8 (bitAt bits k : Int)] ++ List.replicate (128 - 2 * (k + 1)) (Value.int .u8 0)) = plC bits (k + 1) := by
  unfold plC
  rw [plS_succ]
  simp
theorem plC_all (bits : List Bool) : plC bits 64 = (plS bits 64).map (Value.int .u8) := by
  unfold plC
  simp
theorem one2 (a b : Int) : ∀ v ∈ ([.int .u8 a, .int .u8 b] : List Value), v.oneCell' = true := fun v hv => by
  simp only [List.mem_cons, List.not_mem_nil, or_false] at hv
  rcases hv with rfl | rfl <;> rfl
theorem zero87 : Tryd.zeroCells87 = (List.replicate 128 (Value.int .u8 0)).toArray := by kernel_rfl
theorem info128 : (Tryd.prog.info? 87).map (·.size) = some 128 := by kernel_rfl
theorem mid_place (bits : List Bool) (k : Nat) (a : Int) (R : List Value) (w : World) (N : Nat) (t : TypeId) (h : VsAt w N t ((plS bits k).map (Value.int .u8) ++ ([.int .u8 (k : Int), .int .u8 a] ++ R))) : w.rangeAt N (2 * k) [.int .u8 (k : Int), .int .u8 a] :=
  h.mid _ _ fun j v hv => by
    have hj := (List.getElem?_eq_some_iff.1 hv).1
    rw [List.getElem?_append_right (by rw [List.length_map, plS_length]; omega), List.length_map, plS_length, show 2 * k + j - 2 * k = j by omega, List.getElem?_append_left hj, hv]

set_option maxRecDepth 100000 in
set_option maxHeartbeats 4000000 in
theorem placesOf_any (w : World) (A : Option Addr) (c : Nat) (bits : List Bool) (hl : bits.length = 64) (hc : 64 ≤ c) (hA : Bl w A bits) :
    Calls Tryd.prog 73 #[.slice A 64 c] w fun x w' => x = .returned (dv (plS bits 64)) ∧ Below w.heap.size w w' := by
  have HL := hide hl
  obtain ⟨P, hP⟩ : ∃ P, P = plS bits 64 := ⟨_, rfl⟩
  rw [← hP]
  have HP := hide hP
  clear hP
  obtain ⟨b, o, rfl, hcell⟩ := hA (fun e => by rw [e] at hl; simp at hl)
  have HC := hide hcell
  have hcc : (64 : Int) ≤ (c : Int) := by omega
  clear hA hl hc hcell
  go_enter Tryd.func73, Tryd.ntmps73
  go_upto_region 1 with fail
  generalize hX1 : w.alloc _ = W1
  have hB1 : Below w.heap.size w W1 := hX1 ▸ (Below.refl _ _).alloc (Nat.le_refl _) _
  have ho1 : VsAt W1 w.heap.size 87 (plC bits 0) := boxedV w W1 _ _ (by rw [← hX1, zero87]; rfl)
  have HB1 := hide hB1; have HO1 := hide ho1
  clear hX1 hB1 ho1
  go_wp2_with fail
  go_loopg [7] 64 (fun g y7 wx => ∃ k : Nat, g + k = 64 ∧ y7 = .int .i64 (k : Int) ∧ VsAt wx w.heap.size 87 (plC bits k) ∧ Below w.heap.size w wx)
  case atStart => exact ⟨0, rfl, rfl, unhide HO1, unhide HB1⟩
  case round =>
    obtain ⟨k, hk, rfl, hv, hb⟩ := hrel
    cases gk with
    | zero =>
      obtain rfl : k = 64 := by omega
      rw [plC_all] at hv
      have HV := hide hv; have HB := hide hb
      have hpl : ((plS bits 64).map (Value.int .u8)).length = 128 := by rw [List.length_map, plS_length]
      rw [← unhide HP] at HV hpl
      have HPL := hide hpl
      clear hv hb hk hpl
      go_upto_region 8 with fail
      refine wp_region_lit ?_
      refine wpList_load_mid rfl 87 (.tmp 2) rfl w.heap.size 0 rfl (P.map (Value.int .u8)) _ (unhide HV).range Tryd.underlying87 rfl (by rw [unhide HPL]; exact info128) ?_
      try simp only [List.getElem_toArray, List.getElem_cons_zero, List.getElem_cons_succ, Act.put, List.setIfInBounds_toArray, List.set_cons_zero, List.set_cons_succ]
      refine wpList_vput rfl 87 (.tmp 2) (.tmp 25) rfl w.heap.size 0 rfl (P.map (Value.int .u8)) rfl (by rw [unhide HPL]; exact info128) (one_bytes P) _ _ (unhide HV) (by omega) ?_
      intro W4 HW4 HG4
      have hw4 := unhide HW4
      rw [spliceV_all _ _ rfl] at hw4
      have HW := hide hw4
      clear hw4 HW4
      go_wp2_with fail
      try simp only [Exit.inBlock, Exit.then]
      exact vret rfl rfl w.heap.size rfl _ _ (unhide HW) _ Tryd.underlying87 rfl (by rw [unhide HPL]; exact info128) ⟨rfl, (unhide HB).grown (unhide HG4) (unhide HB).size (fun i e => by injection e with e; omega)⟩
    | succ g =>
      have hk64 : k < 64 := by omega
      have k1 : (k : Int) < 64 := by omega
      have k0 : (0 : Int) ≤ (k : Int) := Int.natCast_nonneg _
      have wk : IntKind.u8.wrap (k : Int) = (k : Int) := by rw [IntKind.wrap_u8]; omega
      obtain ⟨x, hx⟩ : ∃ x, bits[k]? = some x := ⟨_, List.getElem?_eq_getElem (by have := unhide HL; omega)⟩
      have hcx := (unhide HC) k x hx
      rw [← hb.cell (p := ⟨b, o + k, none⟩) (lt_of_cell hcx)] at hcx
      have hbk : bitAt bits k = bN x := by unfold bitAt; rw [List.getD_eq_getElem?_getD, hx]; rfl
      have HV := hide hv; have HB := hide hb; have HBK := hide hbk
      have HK : Hid (g + 1 + k = 64 ∧ k < 64) := ⟨hk, hk64⟩
      clear hv hb hk hk64 hx hbk
      go_upto_region 4 with fail
      refine wp_region_lit ?_
      refine wpList_plain rfl fun Kt hKt => ?_
      go_simp
      refine hKt _ _ ?_
      clear hKt Kt
      refine wpList_plain rfl fun Kt hKt => ?_
      go_simp
      refine hKt _ _ ?_
      clear hKt Kt
      refine wpList_plain rfl fun Kt hKt => ?_
      go_simp
      refine hKt _ _ ?_
      clear hKt Kt
      refine wpList_plain rfl fun Kt hKt => ?_
      go_simp
      refine hKt _ _ ?_
      clear hKt Kt
      refine wpList_plain rfl fun Kt hKt => ?_
      go_simp
      refine hKt _ _ ?_
      clear hKt Kt
      refine wpList_vput rfl 86 (.tmp 16) (.tmp 15) rfl w.heap.size (2 * k) (by rw [Nat.mul_comm]; rfl) [.int .u8 (k : Int), .int .u8 0] rfl info2 (one2 _ _) _ _ (unhide HV) (by rw [plC_length _ _ (by have := unhide HK; omega)]; have := unhide HK; simp; omega) ?_
      intro W2 HW2 HG2
      have hw2 := unhide HW2
      rw [plC_put bits k (unhide HK).2] at hw2
      have HV2 := hide hw2
      have HB2 := hide ((unhide HB).grown (unhide HG2) (unhide HB).size (fun i e => by injection e with e; omega))
      clear hw2 HW2 HG2 HV HB
      try simp only [List.getElem_toArray, List.getElem_cons_zero, List.getElem_cons_succ, Act.put, List.setIfInBounds_toArray, List.set_cons_zero, List.set_cons_succ]
      cases x with
      | false =>
        go_wp2_with fail
        go_roundg g
        case measure => omega
        case rel => exact ⟨k + 1, by have := unhide HK; omega, by push_cast; rfl, by have h := unhide HV2; rw [← plC_next, unhide HBK]; exact h, unhide HB2⟩
      | true =>
        go_upto_region 6 with fail
        refine wp_region_lit ?_
        refine wpList_plain rfl fun Kt hKt => ?_
        go_simp
        refine hKt _ _ ?_
        clear hKt Kt
        refine wpList_plain rfl fun Kt hKt => ?_
        go_simp
        refine hKt _ _ ?_
        clear hKt Kt
        refine wpList_plain rfl fun Kt hKt => ?_
        go_simp
        refine hKt _ _ ?_
        clear hKt Kt
        refine wpList_load_mid rfl 86 (.tmp 20) rfl w.heap.size (2 * k) (by rw [Nat.mul_comm]; rfl) [.int .u8 (k : Int), .int .u8 0] _ (mid_place bits k 0 _ W2 _ _ (unhide HV2)) Tryd.underlying86 rfl info2 ?_
        try simp only [List.getElem_toArray, List.getElem_cons_zero, List.getElem_cons_succ, Act.put, List.setIfInBounds_toArray, List.set_cons_zero, List.set_cons_succ]
        go_wp2_with fail
        refine (other_any (k : Int) 0 (by omega) W2).mono ?_; rintro x W3 ⟨rfl, hB3⟩
        have HV3 := hide ((unhide HV2).keep hB3)
        have HB3 := hide (thenB (unhide HB2) hB3)
        clear hB3 HV2 HB2
        dsimp only
        rename_i KK hK
        refine hK _ _ ?_
        clear hK KK
        refine wpList_plain rfl fun Kt hKt => ?_
        go_simp
        refine hKt _ _ ?_
        clear hKt Kt
        refine wpList_vput rfl 86 (.tmp 23) (.tmp 22) rfl w.heap.size (2 * k) (by rw [Nat.mul_comm]; rfl) [.int .u8 (k : Int), .int .u8 1] rfl info2 (one2 _ _) _ _ (unhide HV3) (by simp only [List.length_append, List.length_map, plS_length, List.length_cons, List.length_nil, List.length_replicate]; have := unhide HK; omega) ?_
        intro W4 HW4 HG4
        have hw4 := unhide HW4
        rw [plC_put2] at hw4
        have HV4 := hide hw4
        have HB4 := hide ((unhide HB3).grown (unhide HG4) (unhide HB3).size (fun i e => by injection e with e; omega))
        clear hw4 HW4 HG4 HV3 HB3
        go_wp2_with fail
        go_roundg g
        case measure => omega
        case rel => exact ⟨k + 1, by have := unhide HK; omega, by push_cast; rfl, by have h := unhide HV4; rw [← plC_next, unhide HBK]; exact h, unhide HB4⟩
end Go.Proofs.YtceppmajbkmbdaaDoor
namespace Go.Proofs.YtceppmajbkmbdaaDoor
set_option linter.unusedSimpArgs false
set_option linter.unusedVariables false
open Go.RowKit

theorem eq_pl (a b : List Int) (ha : a.length = 2) (hb : b.length = 2) (w : World) : (Op.equalIn 10000 86 (dv a) (dv b)).run Tryd.prog w = .ok (decide (a = b)) w := by
  obtain ⟨i, hi⟩ : ∃ i, Tryd.prog.info? 5 = some i := Option.isSome_iff_exists.1 (by kernel_rfl)
  rw [run_equalIn_array (P := Tryd.prog) w 9999 _ _ Tryd.underlying86 hi, cells8, List.range_eq_range']
  have := eqItems_dv 9998 a b w 2 0 (by omega) (by omega)
  rw [List.drop_zero, List.drop_zero, List.take_of_length_le (by omega), List.take_of_length_le (by omega)] at this
  exact this
theorem guard_pl : Tryd.prog.eqGuardType Tryd.prog.depth 86 = false := by kernel_rfl
theorem wp_eqlP {o : Oper} {a : Act} {w : World} {K : Act → World → Prop} {Q : Exit → Act → World → Prop} (x y : Operand) (t : TypeId) (ho : o.op = .binOp .eql 86 x y t) (l k : List Int) (hx : a.eval x = dv l) (hy : a.eval y = dv k) (hl : l.length = 2) (hk : k.length = 2)
    (h : K (a.put o.dst (.bool (decide (l = k)))) w) : o.wp Tryd.prog a w K Q := by
  unfold Oper.wp execOp
  simp only [ho, hx, hy, Sem.run_bind, run_eqGuard_agg w _ _ _ _ _ _ guard_pl, run_eql_struct, eq_pl l k hl hk w, Result.andThen_ok, Sem.run_pure]
  exact h
def shownL (bits : List Bool) (A1 : Option Addr) (c1 : Nat) (A2 : Option Addr) (c2 : Nat) : List Value := (plS bits 64).map (Value.int .u8) ++ [.slice A1 64 c1, .slice A2 64 c2]
theorem shownL_length (bits : List Bool) (A1 : Option Addr) (c1 : Nat) (A2 : Option Addr) (c2 : Nat) : (shownL bits A1 c1 A2 c2).length = 130 := by
  unfold shownL
  rw [List.length_append, List.length_map, plS_length]
  rfl
theorem shownL_one (bits : List Bool) (A1 : Option Addr) (c1 : Nat) (A2 : Option Addr) (c2 : Nat) : ∀ v ∈ shownL bits A1 c1 A2 c2, v.oneCell' = true := fun v hv => by
  unfold shownL at hv
  rcases List.mem_append.1 hv with h | h
  · exact one_bytes _ v h
  · simp only [List.mem_cons, List.not_mem_nil, or_false] at h
    rcases h with rfl | rfl <;> rfl
theorem shownL_op (bits : List Bool) (A1 : Option Addr) (c1 : Nat) (A2 : Option Addr) (c2 : Nat) : (shownL bits A1 c1 A2 c2)[128]? = some (.slice A1 64 c1) ∧ (shownL bits A1 c1 A2 c2)[129]? = some (.slice A2 64 c2) := by
  unfold shownL
  rw [List.getElem?_append_right (by rw [List.length_map, plS_length]; omega), List.getElem?_append_right (by rw [List.length_map, plS_length]; omega), List.length_map, plS_length]
  exact ⟨rfl, rfl⟩
theorem shownL_pl (bits : List Bool) (A1 : Option Addr) (c1 : Nat) (A2 : Option Addr) (c2 : Nat) (j : Nat) (hj : j < 64) (w : World) (N : Nat) (t : TypeId) (h : VsAt w N t (shownL bits A1 c1 A2 c2)) : w.rangeAt N (j * 2) [.int .u8 (j : Int), .int .u8 (bitAt bits j : Int)] := by
  obtain ⟨e1, e2⟩ := plS_get bits 64 j hj
  refine h.mid _ _ fun i v hv => ?_
  unfold shownL
  have hi := (List.getElem?_eq_some_iff.1 hv).1
  simp only [List.length_cons, List.length_nil] at hi
  rw [List.getElem?_append_left (by rw [List.length_map, plS_length]; omega), List.getElem?_map]
  match i, hi, hv with
  | 0, _, hv => injection hv with hv; subst hv; rw [show j * 2 + 0 = 2 * j by omega, e1]; rfl
  | 1, _, hv => injection hv with hv; subst hv; rw [show j * 2 + 1 = 2 * j + 1 by omega, e2]; rfl
theorem info130 : (Tryd.prog.info? 94).map (·.size) = some 130 := by kernel_rfl
/-- digests of a signature: 64 of them -/
structure Sg64 (w : World) (A : Option Addr) (c : Nat) (l : List (List Int)) : Prop where
  len : l.length = 64
  cap : 64 ≤ c
  at_ : Ds w A l
theorem Sg64.keep {w w' : World} {A : Option Addr} {c : Nat} {l : List (List Int)} (h : Sg64 w A c l) (hb : Below w.heap.size w w') : Sg64 w' A c l := ⟨h.len, h.cap, h.at_.keep hb⟩

set_option maxRecDepth 100000 in
set_option maxHeartbeats 4000000 in
theorem shown_any (w : World) (bits : List Bool) (A1 : Option Addr) (c1 : Nat) (opened : List (List Int)) (h1 : Sg64 w A1 c1 opened) (A2 : Option Addr) (c2 : Nat) (closed : List (List Int)) (h2 : Sg64 w A2 c2 closed) (j b : Nat) (hj : j < 64) (hb : b < 2) (hT : DTab w) :
    Calls Tryd.prog 80 #[.agg (shownL bits A1 c1 A2 c2).toArray, dv [(j : Int), (b : Int)]] w fun x w' => x = .returned (dv (shownS bits opened closed j b)) ∧ Below w.heap.size w w' := by
  have HT := hide hT; have H1 := hide h1; have H2 := hide h2
  have j0 : (0 : Int) ≤ (j : Int) := Int.natCast_nonneg _
  have j1 : (j : Int) < 64 := by omega
  have hc1 : (64 : Int) ≤ (c1 : Int) := by have := h1.cap; omega
  have hc2 : (64 : Int) ≤ (c2 : Int) := by have := h2.cap; omega
  have HJ : Hid (j < 64 ∧ b < 2) := ⟨hj, hb⟩
  obtain ⟨b1, o1, rfl, hr1⟩ := h1.at_.at_ (fun e => by have := h1.len; rw [e] at this; simp at this)
  obtain ⟨b2, o2, rfl, hr2⟩ := h2.at_.at_ (fun e => by have := h2.len; rw [e] at this; simp at this)
  obtain ⟨d1, hd1⟩ : ∃ d, opened[j]? = some d := ⟨_, List.getElem?_eq_getElem (by rw [h1.len]; exact hj)⟩
  obtain ⟨d2, hd2⟩ : ∃ d, closed[j]? = some d := ⟨_, List.getElem?_eq_getElem (by rw [h2.len]; exact hj)⟩
  have hg1 : Dg d1 := h1.at_.dg d1 (List.mem_of_getElem? hd1)
  have hg2 : Dg d2 := h2.at_.dg d2 (List.mem_of_getElem? hd2)
  have HR1 := hide (hr1 j d1 hd1); have HR2 := hide (hr2 j d2 hd2); have HG1 := hide hg1; have HG2 := hide hg2
  have hsh : shownS bits opened closed j b = if b = bitAt bits j then opnS d1 else d2 := by
    unfold shownS
    rw [List.getD_eq_getElem?_getD, List.getD_eq_getElem?_getD, hd1, hd2]
    rfl
  rw [hsh]
  obtain ⟨R, hR⟩ : ∃ R, R = if b = bitAt bits j then opnS d1 else d2 := ⟨_, rfl⟩
  rw [← hR]
  have HR := hide hR
  clear hR
  obtain ⟨ck, hck⟩ : ∃ cs, cs = (shownL bits (some ⟨b1, o1, none⟩) c1 (some ⟨b2, o2, none⟩) c2).toArray := ⟨_, rfl⟩
  have hsk : ck.size = 130 := by rw [hck]; simpa using shownL_length bits (some ⟨b1, o1, none⟩) c1 (some ⟨b2, o2, none⟩) c2
  rw [← hck]
  clear hT h1 h2 hj hb hr1 hr2 hd1 hd2 hg1 hg2 hsh
  go_enter Tryd.func80, Tryd.ntmps80
  go_upto_region 1 with fail
  generalize hX1 : w.alloc _ = W1
  have hB1 : Below w.heap.size w W1 := hX1 ▸ (Below.refl _ _).alloc (Nat.le_refl _) _
  have ho1 : VsAt W1 w.heap.size 94 (shownL bits (some ⟨b1, o1, none⟩) c1 (some ⟨b2, o2, none⟩) c2) := boxedV w W1 _ _ (by rw [← hX1, ← hck]; rfl)
  have hz1 : W1.heap.size = w.heap.size + 1 := by rw [← hX1]; show (w.heap.push _).size = _; rw [Array.size_push]
  generalize hX2 : W1.alloc _ = W2
  have hB2 : Below W1.heap.size W1 W2 := hX2 ▸ (Below.refl _ _).alloc (Nat.le_refl _) _
  have ho2 : ByAt W2 W1.heap.size 86 [(j : Int), (b : Int)] := boxed W1 W2 _ _ (by rw [← hX2]; rfl)
  have hz2 : W2.heap.size = w.heap.size + 2 := by rw [← hX2]; show (W1.heap.push _).size = _; rw [Array.size_push]; omega
  generalize hX3 : W2.alloc _ = W3
  have hB3 : Below W2.heap.size W2 W3 := hX3 ▸ (Below.refl _ _).alloc (Nat.le_refl _) _
  have ho3 : ByAt W3 W2.heap.size 24 zeros := newBy W2 W3 (by rw [← hX3]; rfl)
  have hk2 := (ho2.keep hB3)
  rw [hz1] at hk2
  rw [hz2] at ho3
  have hp0 : W3.cell? ⟨w.heap.size + 1, 0, none⟩ = some (.int .u8 (j : Int)) := hk2.cell (by simp)
  have HK1 := hide ((ho1.keep hB2).keep hB3)
  have HK2 := hide hk2
  have HK3 := hide ho3
  have HB := hide (thenB (thenB hB1 hB2) hB3)
  clear hX1 hB1 ho1 hz1 hX2 hB2 ho2 hz2 hk2 hX3 hB3 ho3 hck
  go_upto_region 2 with fail
  obtain ⟨W, hW⟩ : ∃ W, W = W3.drewN 1 := ⟨_, rfl⟩
  have HW : Hid (W = W3.drewN 1) := hW
  have HE1 := hide ((unhide HK1).keep (below_named HW))
  have HE2 := hide ((unhide HK2).keep (below_named HW))
  have HE3 := hide ((unhide HK3).keep (below_named HW))
  have hBW := thenB (unhide HB) (below_named HW)
  have HBW := hide hBW
  have hSW : Below W.heap.size W W := Below.refl _ _
  have hcs : W.cell? ⟨w.heap.size, 128, none⟩ = some (.slice (some ⟨b1, o1, none⟩) 64 c1) := (unhide HE1).cell (shownL_op _ _ _ _ _).1
  have hct : W.cell? ⟨w.heap.size, 129, none⟩ = some (.slice (some ⟨b2, o2, none⟩) 64 c2) := (unhide HE1).cell (shownL_op _ _ _ _ _).2
  have HF1 := hide (rangeAt_keep (unhide HR1) hBW); have HF2 := hide (rangeAt_keep (unhide HR2) hBW)
  clear hW HK1 HK2 HK3 HB hp0 hBW HR1 HR2
  refine held (S := Below W.heap.size W) W HW (by kernel_rfl) ?_
  refine wpAnyH_take (i := 0) (v := .agg [.int .u8 (j : Int), .int .u8 (b : Int)].toArray) rfl (by kernel_rfl) (by kernel_rfl) (by kernel_rfl) (fun _ _ _ h => h) (yieldsIf_load_mid (by kernel_rfl) 86 (.tmp 3) rfl (w.heap.size + 1) 0 rfl [.int .u8 (j : Int), .int .u8 (b : Int)] _ (fun W hS => ((unhide HE2).keep hS).range) Tryd.underlying86 rfl info2) (by assumption) ?_
  try simp only [List.getElem_toArray, List.getElem_cons_zero, List.getElem_cons_succ, Act.put, List.setIfInBounds_toArray, List.set_cons_zero, List.set_cons_succ]
  refine wpAnyH_take (i := 1) (v := ?_) rfl (by kernel_rfl) (by kernel_rfl) (by kernel_rfl) (fun _ _ _ h => h) (Or.inl ⟨by kernel_rfl, ?_⟩) (by assumption) ?_
  rotate_left
  · intro Wt hSt
    go_simp
    try with_reducible rfl
  try simp only [List.getElem_toArray, List.getElem_cons_zero, List.getElem_cons_succ, Act.put, List.setIfInBounds_toArray, List.set_cons_zero, List.set_cons_succ]
  refine wpAnyH_take (i := 2) (v := ?_) rfl (by kernel_rfl) (by kernel_rfl) (by kernel_rfl) (fun _ _ _ h => h) (Or.inl ⟨by kernel_rfl, ?_⟩) (by assumption) ?_
  rotate_left
  · intro Wt hSt
    go_simp
    try with_reducible rfl
  try simp only [List.getElem_toArray, List.getElem_cons_zero, List.getElem_cons_succ, Act.put, List.setIfInBounds_toArray, List.set_cons_zero, List.set_cons_succ]
  refine wpAnyH_take (i := 3) (v := ?_) rfl (by kernel_rfl) (by kernel_rfl) (by kernel_rfl) (fun _ _ _ h => h) (Or.inl ⟨by kernel_rfl, ?_⟩) (by assumption) ?_
  rotate_left
  · intro Wt hSt
    go_simp
    try with_reducible rfl
  try simp only [List.getElem_toArray, List.getElem_cons_zero, List.getElem_cons_succ, Act.put, List.setIfInBounds_toArray, List.set_cons_zero, List.set_cons_succ]
  refine wpAnyH_take (i := 4) (v := .agg [.int .u8 (j : Int), .int .u8 (bitAt bits j : Int)].toArray) rfl (by kernel_rfl) (by kernel_rfl) (by kernel_rfl) (fun _ _ _ h => h) (yieldsIf_load_mid (by kernel_rfl) 86 (.tmp 11) rfl w.heap.size (j * 2) rfl [.int .u8 (j : Int), .int .u8 (bitAt bits j : Int)] _ (fun W hS => shownL_pl _ _ _ _ _ j (unhide HJ).1 _ _ _ ((unhide HE1).keep hS)) Tryd.underlying86 rfl info2) (by assumption) ?_
  try simp only [List.getElem_toArray, List.getElem_cons_zero, List.getElem_cons_succ, Act.put, List.setIfInBounds_toArray, List.set_cons_zero, List.set_cons_succ]
  refine wpAnyH_one 5 _ rfl (by kernel_rfl) (by kernel_rfl) ?_
  intro K hK
  refine wp_eqlP (.tmp 8) (.tmp 12) _ rfl [(j : Int), (b : Int)] [(j : Int), (bitAt bits j : Int)] rfl rfl rfl rfl ?_
  refine hK _ _ hSW ?_
  clear hK K
  try simp only [List.getElem_toArray, List.getElem_cons_zero, List.getElem_cons_succ, Act.put, List.setIfInBounds_toArray, List.set_cons_zero, List.set_cons_succ]
  by_cases hbb : b = bitAt bits j
  · rw [show decide ([(j : Int), (b : Int)] = [(j : Int), (bitAt bits j : Int)]) = true by rw [hbb]; simp]
    have hRe := unhide HR
    rw [if_pos hbb] at hRe
    have HRE := hide hRe
    clear hRe
    clear hbb
    refine wpAnyH_chainOf [] _ _ _ (by kernel_rfl) (by kernel_rfl) ?_
    refine wpChain_nil ?_
    have ht1 : Bt W (some ⟨b1, o1 + j * 32, none⟩) d1 := ⟨(unhide HG1).byt, fun _ => ⟨b1, o1 + j * 32, rfl, fun i hi => (unhide HF1) i _ (by rw [List.getElem?_map, List.getD_eq_getElem?_getD, List.getElem?_eq_getElem hi]; rfl)⟩⟩
    have htg := tagged_any W ⟨#[111, 112, 101, 110]⟩ (some ⟨b1, o1 + j * 32, none⟩) 32 d1 ht1 (Nat.le_of_eq (unhide HG1).len) ((unhide HT).keep (unhide HBW))
    rw [show sb ⟨#[111, 112, 101, 110]⟩ = OPNB by decide, show tagF OPNB d1 = opnS d1 from rfl, (unhide HG1).len] at htg
    have HTG := hide htg
    clear ht1 htg
    go_wp2_with fail
    refine (unhide HTG).mono ?_; rintro x W5 ⟨rfl, hB5⟩
    have HO5 := hide ((unhide HE3).keep hB5)
    have HB5 := hide (thenB (unhide HBW) hB5)
    clear hB5 HTG HBW
    dsimp only
    rename_i KK hK
    refine hK _ _ ?_
    clear hK KK
    refine wpList_bstore rfl 24 (.tmp 4) (.tmp 19) rfl (w.heap.size + 2) rfl (opnS d1) rfl 32 info32 (dg_opnS _).len _ zeros (unhide HO5) rfl ?_
    intro W9 HW9 HG9
    go_wp2_with fail
    try simp only [Exit.inBlock, Exit.then]
    exact bret rfl rfl (w.heap.size + 2) rfl _ _ (unhide HW9) (dg_opnS _).len ⟨by rw [unhide HRE], (unhide HB5).grown (unhide HG9) (unhide HB5).size (fun i e => by injection e with e; omega)⟩
  · rw [show decide ([(j : Int), (b : Int)] = [(j : Int), (bitAt bits j : Int)]) = false by simp; omega]
    have hRe := unhide HR
    rw [if_neg hbb] at hRe
    have HRE := hide hRe
    clear hRe
    clear hbb
    refine wpAnyH_chainOf [] _ _ _ (by kernel_rfl) (by kernel_rfl) ?_
    refine wpChain_nil ?_
    go_upto_region 4 with fail
    refine wp_region_lit ?_
    refine wpList_plain rfl fun Kt hKt => ?_
    go_simp
    refine hKt _ _ ?_
    clear hKt Kt
    refine wpList_plain rfl fun Kt hKt => ?_
    go_simp
    refine hKt _ _ ?_
    clear hKt Kt
    refine wpList_plain rfl fun Kt hKt => ?_
    go_simp
    refine hKt _ _ ?_
    clear hKt Kt
    refine wpList_plain rfl fun Kt hKt => ?_
    go_simp
    refine hKt _ _ ?_
    clear hKt Kt
    refine wpList_load_mid rfl 24 (.tmp 23) rfl b2 (o2 + j * 32) rfl (d2.map (Value.int .u8)) _ (unhide HF2) Tryd.underlying24 rfl (by rw [List.length_map, (unhide HG2).len]; exact info32) ?_
    try simp only [List.getElem_toArray, List.getElem_cons_zero, List.getElem_cons_succ, Act.put, List.setIfInBounds_toArray, List.set_cons_zero, List.set_cons_succ]
    refine wpList_bstore rfl 24 (.tmp 4) (.tmp 24) rfl (w.heap.size + 2) rfl d2 rfl 32 info32 (unhide HG2).len _ zeros (unhide HE3) rfl ?_
    intro W9 HW9 HG9
    go_wp2_with fail
    try simp only [Exit.inBlock, Exit.then]
    exact bret rfl rfl (w.heap.size + 2) rfl _ _ (unhide HW9) (unhide HG2).len ⟨by rw [unhide HRE], (unhide HBW).grown (unhide HG9) (unhide HBW).size (fun i e => by injection e with e; omega)⟩
theorem run_shown (args : Array Value) (w : World) : (callFunc 80 args).run Tryd.prog w = .ok (.enter 80 args) w := by
  simp [callFunc, Tryd.func80, Tryd.f80]
end Go.Proofs.YtceppmajbkmbdaaDoor
namespace Go.Proofs.YtceppmajbkmbdaaDoor
set_option linter.unusedSimpArgs false
set_option linter.unusedVariables false
open Go.RowKit

theorem gk_set {w : World} {base P : Nat} (o : Nat) (u : Value) : GK base P w (w.setCell ⟨P, o, none⟩ u) :=
  ⟨rfl, rfl, rfl, Nat.le_of_eq (by show w.heap.size = (w.heap.modify P _).size; simp), fun k _ hp => heap_setCell_other w _ k _ hp⟩
theorem OwnD.putAt {w : World} {base P o : Nat} {v u : Value} {p : List (List Int)} (h : OwnD w base v p) (hP : P < base) : OwnD (w.setCell ⟨P, o, none⟩ u) base v p := by
  refine ⟨h.1, ?_⟩
  rcases h.2 with h | ⟨g, cap, cur, rfl, hbg, hg, r⟩
  · exact .inl h
  · exact .inr ⟨g, cap, cur, rfl, hbg, (heap_setCell_other w _ g _ (show g ≠ P by omega)).trans hg, r⟩
/-- a signature in the making: ko opened secrets, kc closed hashes -/
structure SgInv (base N : Nat) (W0 : World) (used : Nat) (seed : List Int) (bits : List Bool) (ko kc : Nat) (vO vC : Value) (w : World) : Prop where
  sig : VsAt w N 52 [.int .i64 (used : Int), vO, vC, .slice none 0 0]
  op : OwnD w base vO (openedS seed used bits ko)
  cl : OwnD w base vC (closedS seed used bits kc)
  ap : ∀ b, vO.ownBlock = some b → vC.ownBlock ≠ some b
  gk : GK base N W0 w
  big : base ≤ w.heap.size
  low : N < base
theorem SgInv.keep {base N : Nat} {W0 : World} {used : Nat} {seed : List Int} {bits : List Bool} {ko kc : Nat} {vO vC : Value} {w w' : World} (h : SgInv base N W0 used seed bits ko kc vO vC w) (hb : Below w.heap.size w w') : SgInv base N W0 used seed bits ko kc vO vC w' :=
  ⟨h.sig.keep hb, h.op.later hb, h.cl.later hb, h.ap, h.gk.trans (GK.below h.big hb), Nat.le_trans h.big hb.size, h.low⟩
theorem SgInv.stepO {base N : Nat} {W0 : World} {used : Nat} {seed : List Int} {bits : List Bool} {ko kc : Nat} {vO vC : Value} {w : World} (h : SgInv base N W0 used seed bits ko kc vO vC w) (hk : ko ≤ 64) (M c : Nat) (d : List Int) (hd : Dg d) (he : d = secS (begS seed used) ko (bitAt bits ko)) (hM : ByAt w M 24 d) (ty : TypeId) :
    ∃ A cap W, (Builtin.append_ #[26, 26] ty #[vO, .slice (some ⟨M, 0, none⟩) 1 c]).run Tryd.prog w = .ok (.slice A (ko + 1) cap) W ∧ W.cell? ⟨N, 1, none⟩ = some vO ∧ W.frozen? ⟨N, 1, none⟩ = false ∧ w.grownBy W vO.ownBlock ∧
      SgInv base N W0 used seed bits (ko + 1) kc (.slice A (ko + 1) cap) vC (W.setCell ⟨N, 1, none⟩ (.slice A (ko + 1) cap)) := by
  obtain ⟨v, W, hr, ho, hg, hob⟩ := append_one h.op ty M c d hd hM (by rw [openedS_length]; omega) h.big
  rw [he, ← openedS_succ] at ho
  obtain ⟨A, cap, rfl, hcap, _, _⟩ := own_form ho (dg_openedS _ _ _ _)
  rw [openedS_length] at hr ho hob
  have hsz : w.heap.size ≤ W.heap.size := hg.size
  have hs : VsAt W N 52 [.int .i64 (used : Int), vO, vC, .slice none 0 0] := h.sig.grown hg (fun e => by have := (h.op.lt _ e).1; have := h.low; omega)
  have hc : OwnD W base vC (closedS seed used bits kc) := by
    refine h.cl.kept hg ?_
    cases hv : vC.ownBlock with
    | none => exact .inl rfl
    | some b => exact .inr fun e => h.ap b e.symm hv
  refine ⟨A, cap, W, hr, hs.cell rfl, hs.free 1, hg, ⟨hs.set 1 _, ho.putAt h.low, hc.putAt h.low, fun b hb e => ?_, (h.gk.trans (GK.grown h.big hg fun k hk => .inl (h.op.lt k hk).1)).trans (gk_set 1 _), ?_, h.low⟩⟩
  · rcases hob with hob | hob
    · exact h.ap b (hob.symm.trans hb) e
    · rw [hob] at hb
      injection hb with hb
      have := (h.cl.lt b e).2
      omega
  · show base ≤ (W.heap.modify N _).size
    rw [Array.size_modify]
    exact Nat.le_trans h.big hsz
theorem SgInv.stepC {base N : Nat} {W0 : World} {used : Nat} {seed : List Int} {bits : List Bool} {ko kc : Nat} {vO vC : Value} {w : World} (h : SgInv base N W0 used seed bits ko kc vO vC w) (hk : kc ≤ 64) (M c : Nat) (d : List Int) (hd : Dg d) (he : d = opnS (secS (begS seed used) kc (1 - bitAt bits kc))) (hM : ByAt w M 24 d) (ty : TypeId) :
    ∃ A cap W, (Builtin.append_ #[26, 26] ty #[vC, .slice (some ⟨M, 0, none⟩) 1 c]).run Tryd.prog w = .ok (.slice A (kc + 1) cap) W ∧ W.cell? ⟨N, 2, none⟩ = some vC ∧ W.frozen? ⟨N, 2, none⟩ = false ∧ w.grownBy W vC.ownBlock ∧
      SgInv base N W0 used seed bits ko (kc + 1) vO (.slice A (kc + 1) cap) (W.setCell ⟨N, 2, none⟩ (.slice A (kc + 1) cap)) := by
  obtain ⟨v, W, hr, ho, hg, hob⟩ := append_one h.cl ty M c d hd hM (by rw [closedS_length]; omega) h.big
  rw [he, ← closedS_succ] at ho
  obtain ⟨A, cap, rfl, hcap, _, _⟩ := own_form ho (dg_closedS _ _ _ _)
  rw [closedS_length] at hr ho hob
  have hsz : w.heap.size ≤ W.heap.size := hg.size
  have hs : VsAt W N 52 [.int .i64 (used : Int), vO, vC, .slice none 0 0] := h.sig.grown hg (fun e => by have := (h.cl.lt _ e).1; have := h.low; omega)
  have hc : OwnD W base vO (openedS seed used bits ko) := by
    refine h.op.kept hg ?_
    cases hv : vO.ownBlock with
    | none => exact .inl rfl
    | some b => exact .inr fun e => h.ap b hv e.symm
  refine ⟨A, cap, W, hr, hs.cell rfl, hs.free 2, hg, ⟨hs.set 2 _, hc.putAt h.low, ho.putAt h.low, fun b hb e => ?_, (h.gk.trans (GK.grown h.big hg fun k hk => .inl (h.cl.lt k hk).1)).trans (gk_set 2 _), ?_, h.low⟩⟩
  · rcases hob with hob | hob
    · exact h.ap b hb (hob.symm.trans e)
    · rw [hob] at e
      injection e with e
      have := (h.op.lt b hb).2
      omega
  · show base ≤ (W.heap.modify N _).size
    rw [Array.size_modify]
    exact Nat.le_trans h.big hsz
theorem GK.vs {base P : Nat} {w w' : World} (h : GK base P w w') {b : Nat} {t : TypeId} {cs : List Value} (hv : VsAt w b t cs) (hb : b < base) (hne : b ≠ P) : VsAt w' b t cs := (h.block b hb hne).trans hv
theorem GK.bt {base P : Nat} {w w' : World} (h : GK base P w w') {A : Option Addr} {l : List Int} (hv : Bt w A l) (hA : Low base P A) : Bt w' A l := by
  refine ⟨hv.byt, fun hl => ?_⟩
  obtain ⟨b, o, rfl, hc⟩ := hv.at_ hl
  obtain ⟨h1, h2⟩ := hA _ rfl
  exact ⟨b, o, rfl, fun j hj => h.cell (hc j hj) h1 h2⟩
theorem GK.otk {base P : Nat} {w w' : World} (h : GK base P w w') {A : Option Addr} {n : Nat} {B T : List Int} (hv : Otk w A n B T) (hA : Low base P A) : Otk w' A n B T := ⟨hv.len, hv.pos, hv.few, h.bt hv.at_ hA, hv.tag⟩
theorem GK.under {base P b : Nat} {w0 w w' : World} (h : GK base P w w') (hb : Below b w0 w) (h1 : b ≤ base) (h2 : b ≤ P) : Below b w0 w' :=
  ⟨h.os.trans hb.os, h.tape.trans hb.tape, h.output.trans hb.output, Nat.le_trans hb.size h.size, fun k hk => (h.block k (by omega) (by omega)).trans (hb.block k hk)⟩
theorem vs_set {w : World} {b P o : Nat} {t : TypeId} {cs : List Value} {u : Value} (h : VsAt w b t cs) (hne : b ≠ P) : VsAt (w.setCell ⟨P, o, none⟩ u) b t cs := (heap_setCell_other w _ b _ hne).trans h
theorem index_place (w : World) (cs : Array Value) (j : Nat) (hj : j < 64) (x : Array Value) (he : cs.extract (j * 2) (j * 2 + 2) = x) : (Instr.index 87 (.agg cs) (.int .i64 (j : Int))).run Tryd.prog w = .ok (.agg x) w := by
  obtain ⟨i, hi⟩ : ∃ i, Tryd.prog.info? 86 = some i := Option.isSome_iff_exists.1 (by kernel_rfl)
  have hsz : Tryd.prog.cellsOf 86 = 2 := by kernel_rfl
  have h1 : (j : Int) < 64 := by omega
  simp [Instr.index, asIntOf, part, isAgg, run_underlying Tryd.underlying87, run_underlying Tryd.underlying86, run_sizeOf w hi, hsz, h1, he]
  intro h
  omega
theorem plS_extract (bits : List Bool) (j : Nat) (hj : j < 64) : ((plS bits 64).map (Value.int .u8)).toArray.extract (j * 2) (j * 2 + 2) = #[.int .u8 (j : Int), .int .u8 (bitAt bits j : Int)] := by
  obtain ⟨e1, e2⟩ := plS_get bits 64 j hj
  apply Array.ext_getElem?
  intro i
  have hl := plS_length bits 64
  rw [Array.getElem?_extract]
  match i with
  | 0 => simp [List.getElem?_map, show j * 2 = 2 * j by omega, e1, hl]; omega
  | 1 => simp [List.getElem?_map, show j * 2 + 1 = 2 * j + 1 by omega, e2, hl]; omega
  | i + 2 => simp; intro h; omega
theorem results_cct_mid {P : Program} {fn : Func} {t u v : Tmp} {ty tz : TypeId} (h : fn.results = #[.cell t ty, .cell u tz, .tmp v]) (tmps : Array Value) (w : World) (b b' : Nat) (cs cs' : List Value) (d d' : TypeDesc) (hp : tmps.getD t undef = .pointer (some ⟨b, 0, none⟩)) (hc : w.rangeAt b 0 cs) (hp' : tmps.getD u undef = .pointer (some ⟨b', 0, none⟩)) (hc' : w.rangeAt b' 0 cs')
    (hu : P.underlying ty = some d) (hd : d.isRow = true) (hi : (P.info? ty).map (·.size) = some cs.length) (hu' : P.underlying tz = some d') (hd' : d'.isRow = true) (hi' : (P.info? tz).map (·.size) = some cs'.length) : (results fn tmps).run P w = .ok (.tuple #[.agg cs.toArray, .agg cs'.toArray, tmps.getD v undef]) w := by
  have hl := run_loadVar_mid (P := P) w b 0 ty cs d hc hu hd hi
  have hl' := run_loadVar_mid (P := P) w b' 0 tz cs' d' hc' hu' hd' hi'
  have e1 : tmps[t]?.getD undef = .pointer (some ⟨b, 0, none⟩) := by simpa using hp
  have e2 : tmps[u]?.getD undef = .pointer (some ⟨b', 0, none⟩) := by simpa using hp'
  simp [results, h, e1, e2, asAddr, hl, hl']
theorem vret3 {fn : Func} {R : Ending → World → Prop} {a : Act} {w : World} {t u v : Tmp} {ty tz : TypeId} (h : fn.results = #[.cell t ty, .cell u tz, .tmp v]) (hd : a.defers = []) (N N' : Nat) (hp : a.tmps.getD t undef = .pointer (some ⟨N, 0, none⟩)) (hp' : a.tmps.getD u undef = .pointer (some ⟨N', 0, none⟩)) (T T' : TypeId) (cs cs' : List Value) (h0 : VsAt w N T cs) (h0' : VsAt w N' T' cs')
    (d d' : TypeDesc) (hu : Tryd.prog.underlying ty = some d) (hr : d.isRow = true) (hi : (Tryd.prog.info? ty).map (·.size) = some cs.length) (hu' : Tryd.prog.underlying tz = some d') (hr' : d'.isRow = true) (hi' : (Tryd.prog.info? tz).map (·.size) = some cs'.length) (x : Value) (hv : a.tmps.getD v undef = x) (hR : R (.returned (.tuple #[.agg cs.toArray, .agg cs'.toArray, x])) w) :
    bodyPost Tryd.prog fn R .ret a w := by
  subst hv
  exact bodyPost_ret (v := .tuple #[.agg cs.toArray, .agg cs'.toArray, a.tmps.getD v undef]) (results_cct_mid h _ _ N N' cs cs' _ _ hp h0.range hp' h0'.range hu hr hi hu' hr' hi') hd hR
end Go.Proofs.YtceppmajbkmbdaaDoor
namespace Go.Proofs.YtceppmajbkmbdaaDoor
set_option linter.unusedSimpArgs false
set_option linter.unusedVariables false
open Go.RowKit

def keyL (A : Option Addr) (n c : Nat) (m u : Int) : List Value := [.slice A n c, .int .i64 m, .int .i64 u]
def sigL (i : Int) (A1 : Option Addr) (n1 c1 : Nat) (A2 : Option Addr) (n2 c2 : Nat) (A3 : Option Addr) (n3 c3 : Nat) : List Value := [.int .i64 i, .slice A1 n1 c1, .slice A2 n2 c2, .slice A3 n3 c3]
def sigV (i : Int) (A1 : Option Addr) (n1 c1 : Nat) (A2 : Option Addr) (n2 c2 : Nat) (A3 : Option Addr) (n3 c3 : Nat) : Value := .agg #[.int .i64 i, .slice A1 n1 c1, .slice A2 n2 c2, .slice A3 n3 c3]
theorem keyL_one (A : Option Addr) (n c : Nat) (m u : Int) : ∀ v ∈ ([.slice A n c, .int .i64 m, .int .i64 u] : List Value), v.oneCell' = true := fun v hv => by
  simp only [List.mem_cons, List.not_mem_nil, or_false] at hv
  rcases hv with rfl | rfl | rfl <;> rfl
theorem sigL_one (i : Int) (A1 : Option Addr) (n1 c1 : Nat) (A2 : Option Addr) (n2 c2 : Nat) (A3 : Option Addr) (n3 c3 : Nat) : ∀ v ∈ ([.int .i64 i, .slice A1 n1 c1, .slice A2 n2 c2, .slice A3 n3 c3] : List Value), v.oneCell' = true := fun v hv => by
  simp only [List.mem_cons, List.not_mem_nil, or_false] at hv
  rcases hv with rfl | rfl | rfl | rfl <;> rfl
theorem infoKey : (Tryd.prog.info? 40).map (·.size) = some 3 := by kernel_rfl
theorem infoSig : (Tryd.prog.info? 52).map (·.size) = some 4 := by kernel_rfl

/-- a row of the call's own is kept by a store into an older block -/
theorem own_past {w w' : World} {base N : Nat} {v : Value} {p : List (List Int)} (h : OwnD w base v p) (hg : w.grownBy w' (some N)) (hN : N < base) : OwnD w' base v p :=
  World.ownsRow.kept h hg (.inr fun e => by have := (h.lt N e).1; omega)
theorem wpChain_vput {P : Program} {ops : Array Oper} {l' : List Oper} {o : Oper} {a : Act} {w : World} {Q : Exit → Act → World → Prop} {S : World → Prop} (hgd : o.guard = none) (ty : TypeId) (x y : Operand) (ho : o.op = .store ty x y)
    (N m : Nat) (hx : a.eval x = .pointer (some ⟨N, m, none⟩)) (vs : List Value) (hy : a.eval y = .agg vs.toArray) (hi : (P.info? ty).map (·.size) = some vs.length) (h1 : ∀ v ∈ vs, v.oneCell' = true) (T : TypeId) (B : List Value) (h0 : VsAt w N T B) (hm : m + vs.length ≤ B.length)
    (h : ∀ W, Hid (VsAt W N T (spliceV B vs m)) → Hid (w.grownBy W (some N)) → S W ∧ wpChain P ops Q S l' (a.put o.dst undef) W) : wpChain P ops Q S (o :: l') a w := by
  obtain ⟨h2, h3⟩ := h _ (hide (by simpa using h0.setCells vs m w B hm)) (hide (by simpa using grownSetCells N vs m w))
  exact wpChain_step hgd fun K hK => wp_store_mid ty x y ho N m vs.toArray hx hy (by simpa using h0.there m vs.length hm) (by simpa using hi) (all_oneCell_toArray h1) (hK _ _ (by simpa using h2) (by simpa using h3))
def signNone : Value := .tuple #[keyV none 0 0 0 0, sigV 0 none 0 0 none 0 0 none 0 0, .int .i64 40]
set_option maxRecDepth 100000 in
set_option maxHeartbeats 4000000 in
theorem Sign_bad (w : World) (A : Option Addr) (n c : Nat) (many used : Int) (hk : keyOk n many used = false) (v : Value) :
    Calls Tryd.prog 37 #[keyV A n c many used, v] w fun x w' => x = .returned signNone ∧ Below w.heap.size w w' := by
  have hik := fun W => isKey_any A n c many used W
  rw [hk] at hik
  unfold keyV at hik ⊢
  have HIK := hide hik
  clear hik hk
  go_enter Tryd.func37, Tryd.ntmps37
  go_upto_region 1 with fail
  generalize hX1 : w.alloc _ = W1
  have hB1 : Below w.heap.size w W1 := hX1 ▸ (Below.refl _ _).alloc (Nat.le_refl _) _
  have ho1 : VsAt W1 w.heap.size 40 [.slice A n c, .int .i64 many, .int .i64 used] := boxedV w W1 _ _ (by rw [← hX1]; rfl)
  have hz1 : W1.heap.size = w.heap.size + 1 := by rw [← hX1]; show (w.heap.push _).size = _; rw [Array.size_push]
  generalize hX2 : W1.alloc _ = W2
  have hB2 : Below W1.heap.size W1 W2 := hX2 ▸ (Below.refl _ _).alloc (Nat.le_refl _) _
  have ho2 : VsAt W2 W1.heap.size 40 [.slice none 0 0, .int .i64 0, .int .i64 0] := boxedV W1 W2 _ _ (by rw [← hX2]; rfl)
  have hz2 : W2.heap.size = w.heap.size + 2 := by rw [← hX2]; show (W1.heap.push _).size = _; rw [Array.size_push]; omega
  generalize hX3 : W2.alloc _ = W3
  have hB3 : Below W2.heap.size W2 W3 := hX3 ▸ (Below.refl _ _).alloc (Nat.le_refl _) _
  have ho3 : VsAt W3 W2.heap.size 52 [.int .i64 0, .slice none 0 0, .slice none 0 0, .slice none 0 0] := boxedV W2 W3 _ _ (by rw [← hX3]; rfl)
  have hz3 : W3.heap.size = w.heap.size + 3 := by rw [← hX3]; show (W2.heap.push _).size = _; rw [Array.size_push]; omega
  rw [hz2] at ho3
  have hk2 := ho2.keep hB3
  rw [hz1] at hk2
  have HK1 := hide ((ho1.keep hB2).keep hB3)
  have HK2 := hide hk2
  have HK3 := hide ho3
  have HB3 := hide (thenB (thenB hB1 hB2) hB3)
  have HZ3 : Hid (w.heap.size + 3 ≤ W3.heap.size) := Nat.le_of_eq hz3.symm
  clear hX1 hB1 ho1 hz1 hX2 hB2 ho2 hz2 hk2 hX3 hB3 ho3 hz3
  refine wp_region_lit ?_
  refine wpList_load_mid rfl 40 (.tmp 2) rfl w.heap.size 0 rfl [.slice A n c, .int .i64 many, .int .i64 used] _ (unhide HK1).range Tryd.underlying40 rfl infoKey ?_
  try simp only [List.getElem_toArray, List.getElem_cons_zero, List.getElem_cons_succ, Act.put, List.setIfInBounds_toArray, List.set_cons_zero, List.set_cons_succ]
  go_wp2_with fail
  refine ((unhide HIK) W3).mono ?_; rintro x W4 ⟨rfl, hB4⟩
  have HL1 := hide ((unhide HK1).keep hB4)
  have HL2 := hide ((unhide HK2).keep hB4)
  have HL3 := hide ((unhide HK3).keep hB4)
  have HB4 := hide (thenB (unhide HB3) hB4)
  have HZ4 : Hid (w.heap.size + 3 ≤ W4.heap.size) := Nat.le_trans (unhide HZ3) hB4.size
  clear hB4 HK1 HK2 HK3 HB3 HZ3
  go_upto_region 2 with fail
  refine wp_region_lit ?_
  refine wpList_plain rfl fun Kt hKt => ?_
  go_simp
  refine hKt _ _ ?_
  clear hKt Kt
  refine wpList_plain rfl fun Kt hKt => ?_
  go_simp
  refine hKt _ _ ?_
  clear hKt Kt
  refine wpList_vput rfl 40 (.tmp 4) (.tmp 14) rfl (w.heap.size + 1) 0 rfl [.slice none 0 0, .int .i64 0, .int .i64 0] rfl infoKey (keyL_one _ _ _ _ _) _ _ (unhide HL2) (by simp) ?_
  intro W5 HW5 HG5
  have hw5 := unhide HW5
  rw [spliceV_all _ _ (by simp)] at hw5
  have HV5 := hide hw5
  have HB5 := hide ((unhide HB4).grown (unhide HG5) (unhide HB4).size (fun i e => by injection e with e; omega))
  have HS5 := hide ((unhide HL3).grown (unhide HG5) (fun e => by injection e with e; omega))
  clear hw5 HW5 HG5 HL2 HL3 HB4
  try simp only [List.getElem_toArray, List.getElem_cons_zero, List.getElem_cons_succ, Act.put, List.setIfInBounds_toArray, List.set_cons_zero, List.set_cons_succ]
  refine wpList_vput rfl 52 (.tmp 5) (.tmp 15) rfl (w.heap.size + 2) 0 rfl [.int .i64 0, .slice none 0 0, .slice none 0 0, .slice none 0 0] rfl infoSig (sigL_one _ _ _ _ _ _ _ _ _ _) _ _ (unhide HS5) (by simp) ?_
  intro W6 HW6 HG6
  have hw6 := unhide HW6
  rw [spliceV_all _ _ (by simp)] at hw6
  have HV6 := hide hw6
  have HB6 := hide ((unhide HB5).grown (unhide HG6) (unhide HB5).size (fun i e => by injection e with e; omega))
  have HK6 := hide ((unhide HV5).grown (unhide HG6) (fun e => by injection e with e; omega))
  clear hw6 HW6 HG6 HS5 HV5 HB5
  go_wp2_with fail
  try simp only [Exit.inBlock, Exit.then]
  exact vret3 rfl rfl (w.heap.size + 1) (w.heap.size + 2) rfl rfl _ _ _ _ (unhide HK6) (unhide HV6) _ _ Tryd.underlying40 rfl infoKey Tryd.underlying52 rfl infoSig _ rfl ⟨rfl, unhide HB6⟩

set_option maxRecDepth 100000 in
set_option maxHeartbeats 4000000 in
theorem Sign_spent (w : World) (A : Option Addr) (n c : Nat) (many : Int) (hk : keyOk n many many = true) (Am : Option Addr) (nm cm : Nat) (hm : nm ≤ 65536) :
    Calls Tryd.prog 37 #[keyV A n c many many, .slice Am nm cm] w fun x w' => x = .returned signNone ∧ Below w.heap.size w w' := by
  have hik := fun W => isKey_any A n c many many W
  rw [hk] at hik
  unfold keyV at hik ⊢
  have HIK := hide hik
  have n65 : ¬ (65536 : Int) < (nm : Int) := by omega
  clear hik hk hm
  go_enter Tryd.func37, Tryd.ntmps37
  go_upto_region 1 with fail
  generalize hX1 : w.alloc _ = W1
  have hB1 : Below w.heap.size w W1 := hX1 ▸ (Below.refl _ _).alloc (Nat.le_refl _) _
  have ho1 : VsAt W1 w.heap.size 40 [.slice A n c, .int .i64 many, .int .i64 many] := boxedV w W1 _ _ (by rw [← hX1]; rfl)
  have hz1 : W1.heap.size = w.heap.size + 1 := by rw [← hX1]; show (w.heap.push _).size = _; rw [Array.size_push]
  generalize hX2 : W1.alloc _ = W2
  have hB2 : Below W1.heap.size W1 W2 := hX2 ▸ (Below.refl _ _).alloc (Nat.le_refl _) _
  have ho2 : VsAt W2 W1.heap.size 40 [.slice none 0 0, .int .i64 0, .int .i64 0] := boxedV W1 W2 _ _ (by rw [← hX2]; rfl)
  have hz2 : W2.heap.size = w.heap.size + 2 := by rw [← hX2]; show (W1.heap.push _).size = _; rw [Array.size_push]; omega
  generalize hX3 : W2.alloc _ = W3
  have hB3 : Below W2.heap.size W2 W3 := hX3 ▸ (Below.refl _ _).alloc (Nat.le_refl _) _
  have ho3 : VsAt W3 W2.heap.size 52 [.int .i64 0, .slice none 0 0, .slice none 0 0, .slice none 0 0] := boxedV W2 W3 _ _ (by rw [← hX3]; rfl)
  have hz3 : W3.heap.size = w.heap.size + 3 := by rw [← hX3]; show (W2.heap.push _).size = _; rw [Array.size_push]; omega
  rw [hz2] at ho3
  have hk2 := ho2.keep hB3
  rw [hz1] at hk2
  have HK1 := hide ((ho1.keep hB2).keep hB3)
  have HK2 := hide hk2
  have HK3 := hide ho3
  have HB3 := hide (thenB (thenB hB1 hB2) hB3)
  have HZ3 : Hid (w.heap.size + 3 ≤ W3.heap.size) := Nat.le_of_eq hz3.symm
  clear hX1 hB1 ho1 hz1 hX2 hB2 ho2 hz2 hk2 hX3 hB3 ho3 hz3
  refine wp_region_lit ?_
  refine wpList_load_mid rfl 40 (.tmp 2) rfl w.heap.size 0 rfl [.slice A n c, .int .i64 many, .int .i64 many] _ (unhide HK1).range Tryd.underlying40 rfl infoKey ?_
  try simp only [List.getElem_toArray, List.getElem_cons_zero, List.getElem_cons_succ, Act.put, List.setIfInBounds_toArray, List.set_cons_zero, List.set_cons_succ]
  go_wp2_with fail
  refine ((unhide HIK) W3).mono ?_; rintro x W4 ⟨rfl, hB4⟩
  have HL1 := hide ((unhide HK1).keep hB4)
  have HL2 := hide ((unhide HK2).keep hB4)
  have HL3 := hide ((unhide HK3).keep hB4)
  have HB4 := hide (thenB (unhide HB3) hB4)
  have HZ4 : Hid (w.heap.size + 3 ≤ W4.heap.size) := Nat.le_trans (unhide HZ3) hB4.size
  clear hB4 HK1 HK2 HK3 HB3 HZ3
  have hc1 : W4.cell? ⟨w.heap.size, 1, none⟩ = some (.int .i64 many) := (unhide HL1).cell rfl
  have hc2 : W4.cell? ⟨w.heap.size, 2, none⟩ = some (.int .i64 many) := (unhide HL1).cell rfl
  go_upto_region 6 with fail
  refine wp_region_lit ?_
  refine wpList_plain rfl fun Kt hKt => ?_
  go_simp
  refine hKt _ _ ?_
  clear hKt Kt
  refine wpList_plain rfl fun Kt hKt => ?_
  go_simp
  refine hKt _ _ ?_
  clear hKt Kt
  refine wpList_vput rfl 40 (.tmp 4) (.tmp 26) rfl (w.heap.size + 1) 0 rfl [.slice none 0 0, .int .i64 0, .int .i64 0] rfl infoKey (keyL_one _ _ _ _ _) _ _ (unhide HL2) (by simp) ?_
  intro W5 HW5 HG5
  have hw5 := unhide HW5
  rw [spliceV_all _ _ (by simp)] at hw5
  have HV5 := hide hw5
  have HB5 := hide ((unhide HB4).grown (unhide HG5) (unhide HB4).size (fun i e => by injection e with e; omega))
  have HS5 := hide ((unhide HL3).grown (unhide HG5) (fun e => by injection e with e; omega))
  clear hw5 HW5 HG5 HL2 HL3 HB4
  try simp only [List.getElem_toArray, List.getElem_cons_zero, List.getElem_cons_succ, Act.put, List.setIfInBounds_toArray, List.set_cons_zero, List.set_cons_succ]
  refine wpList_vput rfl 52 (.tmp 5) (.tmp 27) rfl (w.heap.size + 2) 0 rfl [.int .i64 0, .slice none 0 0, .slice none 0 0, .slice none 0 0] rfl infoSig (sigL_one _ _ _ _ _ _ _ _ _ _) _ _ (unhide HS5) (by simp) ?_
  intro W6 HW6 HG6
  have hw6 := unhide HW6
  rw [spliceV_all _ _ (by simp)] at hw6
  have HV6 := hide hw6
  have HB6 := hide ((unhide HB5).grown (unhide HG6) (unhide HB5).size (fun i e => by injection e with e; omega))
  have HK6 := hide ((unhide HV5).grown (unhide HG6) (fun e => by injection e with e; omega))
  clear hw6 HW6 HG6 HS5 HV5 HB5
  go_wp2_with fail
  try simp only [Exit.inBlock, Exit.then]
  exact vret3 rfl rfl (w.heap.size + 1) (w.heap.size + 2) rfl rfl _ _ _ _ (unhide HK6) (unhide HV6) _ _ Tryd.underlying40 rfl infoKey Tryd.underlying52 rfl infoSig _ rfl ⟨rfl, unhide HB6⟩
end Go.Proofs.YtceppmajbkmbdaaDoor
