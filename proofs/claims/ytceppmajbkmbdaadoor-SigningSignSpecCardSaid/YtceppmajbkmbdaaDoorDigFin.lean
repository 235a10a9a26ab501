/- A contract over the digest's program: finish, for all messages. -/
import Derived.Test.YtceppmajbkmbdaaDoorDigWrite
import Derived.Deep.MidRow
import Derived.Lib.SliceRun
namespace Go.Proofs.YtceppmajbkmbdaaDoor
set_option linter.unusedSimpArgs false
set_option linter.unusedVariables false
open Go.RowKit

/-- a block of bytes -/
def ByAt (w : World) (b : Nat) (t : TypeId) (l : List Int) : Prop := w.heap[b]? = some (.cells (l.map (Value.int .u8)).toArray t (0, 0))
theorem ByAt.keep {w w' : World} {b : Nat} {t : TypeId} {l : List Int} (h : ByAt w b t l) (hb : Below w.heap.size w w') : ByAt w' b t l := (hb.block b (lt_of_block h)).trans h
theorem ByAt.grown {w w' : World} {b nb : Nat} {t : TypeId} {l : List Int} (h : ByAt w b t l) (hb : w.grownBy w' (some nb)) (hne : b ≠ nb) : ByAt w' b t l := (hb.block b (lt_of_block h) (fun e => by injection e with e; exact hne e)).trans h
theorem ByAt.cell {w : World} {b : Nat} {t : TypeId} {l : List Int} (h : ByAt w b t l) {j : Nat} (hj : j < l.length) : w.cell? ⟨b, j, none⟩ = some (.int .u8 (l.getD j 0)) := by
  unfold ByAt at h
  simp [World.cell?, h, List.getD, hj]
theorem ByAt.free {w : World} {b : Nat} {t : TypeId} {l : List Int} (h : ByAt w b t l) (j : Nat) : w.frozen? ⟨b, j, none⟩ = false := by
  unfold ByAt at h
  simp [World.frozen?, h]
theorem ByAt.set {w : World} {b : Nat} {t : TypeId} {l : List Int} (h : ByAt w b t l) (j : Nat) (v : Int) : ByAt (w.setCell ⟨b, j, none⟩ (.int .u8 v)) b t (l.set j v) := by
  unfold ByAt
  rw [box_put h, List.setIfInBounds_toArray, List.map_set]
theorem ByAt.range {w : World} {b : Nat} {t : TypeId} {l : List Int} (h : ByAt w b t l) : w.rangeAt b 0 (l.map (Value.int .u8)) := fun j v hv => by
  unfold ByAt at h
  simp only [Nat.zero_add, World.cell?, h]
  simpa using hv
abbrev dv (l : List Int) : Value := .agg (l.map (Value.int .u8)).toArray
theorem results_cell_mid {P : Program} {fn : Func} {t : Tmp} {ty : TypeId} (h : fn.results = #[.cell t ty]) (tmps : Array Value) (w : World) (b : Nat) (cs : List Value) (d : TypeDesc) (hp : tmps.getD t undef = .pointer (some ⟨b, 0, none⟩)) (hc : w.rangeAt b 0 cs)
    (hu : P.underlying ty = some d) (hd : d.isRow = true) (hi : (P.info? ty).map (·.size) = some cs.length) : (results fn tmps).run P w = .ok (.agg cs.toArray) w := by
  have hl := run_loadVar_mid (P := P) w b 0 ty cs d hc hu hd hi
  have hp' : tmps[t]?.getD undef = .pointer (some ⟨b, 0, none⟩) := by simpa using hp
  simp [results, h, hp', asAddr, hl]
theorem wpList_clear {P : Program} {w : World} {ops : Array Oper} {rest : List Oper} {o : Oper} {a : Act} {Q : Exit → Act → World → Prop} (hgd : o.guard = none) (d : Operand) (dT : TypeId)
    (ho : o.op = .call { callee := .builtin .clear, args := #[d], argTypes := #[dT] }) (elem : TypeId) (z : Value) (hu : P.underlying dT = some (.slice elem)) (hv : ∀ w, (zeroValue elem).run P w = .ok z w) (hz : z.cells = #[z]) (h1 : z.oneCell' = true)
    (b off n c : Nat) (hn : 0 < n) (hd : a.eval d = .slice (some ⟨b, off, none⟩) n c) (hc : ∀ j, j < n → (w.cell? ⟨b, off + j, none⟩).isSome = true) (hf : ∀ j, j < n → w.frozen? ⟨b, off + j, none⟩ = false)
    (h : wpList P ops Q rest (a.put o.dst (.tuple #[])) (w.setCells b off (List.replicate n z))) : wpList P ops Q (o :: rest) a w := by
  refine wpList_plain hgd fun K hK => ?_
  have hrun := Lib.run_clear_slice (P := P) w dT elem o.type z hu hv hz h1 b off n c hn hc hf
  unfold Oper.wp
  simp [execOp, ho, resolve, invoke, builtin, hd, hrun, Result.andThen]
  exact hK _ _ h
theorem SgAt.setCells {f : Nat → Int} {b : Nat} {n : Int} : ∀ (cs : List Int) (m : Nat) (w : World) (B : List Int), SgAt w b f B n → m + cs.length ≤ 136 → (∀ c ∈ cs, Byt c) → SgAt (w.setCells b (25 + m) (cs.map (Value.int .u8))) b f (B.take m ++ (cs ++ B.drop (m + cs.length))) n
  | [], m, w, B, h, _, _ => by
    have e : w.setCells b (25 + m) (([] : List Int).map (Value.int .u8)) = w := rfl
    rw [e]; simpa using h
  | c :: cs, m, w, B, h, hm, hc => by
    simp only [List.length_cons] at hm
    have h1 := h.setByte m (by omega) c (hc c (by simp))
    have h2 := SgAt.setCells cs (m + 1) _ _ h1 (by omega) (fun x hx => hc x (by simp [hx]))
    simp only [List.map_cons, World.setCells]
    have hl := h.len
    have e1 : (B.set m c).take (m + 1) = B.take m ++ [c] := by
      apply List.ext_getElem?
      intro j
      rw [List.getElem?_take, List.getElem?_set, List.getElem?_append, List.length_take, List.getElem?_take, Nat.min_eq_left (by omega)]
      by_cases hj : j < m
      · rw [if_pos (by omega), if_neg (by omega), if_pos hj, if_pos hj]
      · by_cases hj2 : j = m
        · subst hj2; simp; omega
        · rw [if_neg (by omega), if_neg hj, List.getElem?_eq_none (by simp; omega)]
    have e2 : (B.set m c).drop (m + 1 + cs.length) = B.drop (m + 1 + cs.length) := by
      apply List.ext_getElem?
      intro j
      rw [List.getElem?_drop, List.getElem?_drop, List.getElem?_set, if_neg (by omega)]
    rw [e1, e2] at h2
    rw [show 25 + m + 1 = 25 + (m + 1) by omega, List.length_cons, show m + (cs.length + 1) = m + 1 + cs.length by omega]
    simpa using h2

theorem pad_set (q : List Int) (h : q.length < 136) : (q ++ List.replicate (136 - q.length) 0).set q.length 6 = q ++ 6 :: List.replicate (135 - q.length) (0 : Int) := by
  rw [List.set_append, if_neg (by omega), Nat.sub_self, show 136 - q.length = (135 - q.length) + 1 by omega, List.replicate_succ, List.set_cons_zero]
theorem xor_byt (x : Int) (h : Byt x) : Byt (bits .xor .u8 x 128) := by
  obtain ⟨h0, h1⟩ := h
  obtain ⟨n, rfl⟩ := Int.eq_ofNat_of_zero_le h0
  have hn : n < 256 := by omega
  have key : ∀ n : Fin 256, 0 ≤ bits .xor .u8 ((n.val : Nat) : Int) 128 ∧ bits .xor .u8 ((n.val : Nat) : Int) 128 < 256 := by decide +kernel
  exact key ⟨n, hn⟩

theorem grownSetCells (b : Nat) : ∀ (vs : List Value) (o : Nat) (w : World), w.grownBy (w.setCells b o vs) (some b)
  | [], _, w => World.grownBy.refl _ _
  | v :: vs, o, w => (grownSet (World.grownBy.refl _ _) o v).trans (grownSetCells b vs (o + 1) _)

theorem grownNew {w wr W : World} {b N : Nat} (h : w.grownBy wr (some b)) (hN : w.heap.size ≤ N) (h2 : wr.grownBy W (some N)) : w.grownBy W (some b) := by
  refine ⟨h2.os.trans h.os, h2.tape.trans h.tape, h2.output.trans h.output, Nat.le_trans h.size h2.size, fun k hk hne => ?_⟩
  rw [h2.block k (Nat.lt_of_lt_of_le hk h.size) (fun e => by injection e with e; omega)]
  exact h.block k hk hne
theorem SgAt.other {w : World} {b N : Nat} {f : Nat → Int} {B : List Int} {n : Int} (h : SgAt w b f B n) (hne : N ≠ b) {j : Nat} (v : Value) : SgAt (w.setCell ⟨N, j, none⟩ v) b f B n := ⟨h.len, h.byt, h.at_.other (p := ⟨N, j, none⟩) (fun e => hne e.symm) v⟩
theorem out_next (F : Nat → Int) (k : Nat) (hk : k < 32) : ((outF F).take k ++ List.replicate (32 - k) 0).set k (F (k / 8) / 2 ^ (8 * (k % 8)) % 256) = (outF F).take (k + 1) ++ List.replicate (32 - (k + 1)) 0 := by
  have hl := outF_length F
  rw [List.set_append, if_neg (by simp; omega), List.length_take, Nat.min_eq_left (by omega), Nat.sub_self, show 32 - k = (32 - (k + 1)) + 1 by omega, List.replicate_succ, List.set_cons_zero,
    List.take_succ_eq_append_getElem (by omega), List.append_assoc, List.singleton_append]
  congr 2
  simp [outF, IntKind.wrap_u8]

set_option maxRecDepth 100000 in
set_option maxHeartbeats 4000000 in
theorem finish_any (w : World) (b : Nat) (s : (Nat → Int) × List Int) (h : SpQ w b s) (hT : DTab w) (hb : gTop ≤ b) :
    Calls Tryd.prog 89 #[.pointer (some ⟨b, 0, none⟩)] w fun e w' => e = .returned (dv (outF (absF s.1 (padB s.2)))) ∧ w.grownBy w' (some b) := by
  have HH := hide h
  have HT := hide hT
  clear h hT
  go_enter Tryd.func89, Tryd.ntmps89
  go_wp2_with fail
  generalize hX : w.alloc _ = W0
  obtain ⟨N, hN⟩ : ∃ N, N = w.heap.size := ⟨_, rfl⟩
  have hB0 : Below w.heap.size w W0 := hX ▸ (Below.refl _ _).alloc (Nat.le_refl _) _
  have hO : ByAt W0 N 24 (List.replicate 32 0) := by
    rw [← hX, hN]
    show (w.heap.push _)[w.heap.size]? = _
    rw [Array.getElem?_push_size]
    rfl
  obtain ⟨f, q⟩ := s
  obtain ⟨hq, B, hBq, hS⟩ := unhide HH
  simp only at hq hBq hS
  have HN : Hid (w.heap.size ≤ N) := Nat.le_of_eq hN.symm
  have hbN : N ≠ b := fun e => by have := hS.at_.lt; omega
  rw [← hN]
  obtain ⟨ql, hql⟩ : ∃ ql, ql = q.length := ⟨_, rfl⟩
  rw [← hql] at hq hBq hS
  obtain ⟨W, hW⟩ : ∃ W, W = W0.drewN 1 := ⟨_, rfl⟩
  have HW : Hid (W = W0.drewN 1) := hW
  have hB1 := thenB hB0 (below_named HW)
  have hS1 := hS.keep hB1
  have cf := hS1.fill
  have hlen := hS1.len
  have b1 : (ql : Int) ≤ 136 := by omega
  have b1' : (ql : Int) < 136 := by omega
  have b2 : (0 : Int) ≤ (ql : Int) := Int.natCast_nonneg _
  have b3 : ¬ (136 = ql) := by omega
  have HS1 := hide hS1
  have HB1 := hide hB1
  have HO1 := hide (hO.keep (below_named HW))
  have HQ : Hid (ql = q.length ∧ ql < 136 ∧ B.take ql = q ∧ B.length = 136) := ⟨hql, hq, hBq, hlen⟩
  clear hX hB0 hO hS hN hW hB1 hS1 hql hq hBq hlen
  go_wp2_with fail
  refine still_drew 8 W HW (by kernel_rfl) (by kernel_rfl) ?_
  simp only [List.take_succ_cons, List.take_zero, List.drop_succ_cons, List.drop_zero]
  repeat still_step
  refine wpStill_nil ?_
  refine wpList_clear rfl (.tmp 11) 22 rfl 5 (.int .u8 0) Tryd.underlying22 (fun w => by kernel_rfl) rfl rfl b (25 + ql) (136 - ql) (136 - ql) (by have := unhide HQ; omega) rfl (fun j hj => by rw [Nat.add_assoc, (unhide HS1).byte (ql + j) (by omega)]; rfl) (fun j hj => (unhide HS1).free _) ?_
  obtain ⟨W2, hW2⟩ : ∃ W2, W2 = W.setCells b (25 + ql) (List.replicate (136 - ql) (.int .u8 0)) := ⟨_, rfl⟩
  rw [← hW2]
  have hS2 := (unhide HS1).setCells (List.replicate (136 - ql) 0) ql W B (by rw [List.length_replicate]; have := unhide HQ; omega) (fun c hc => by rw [(List.mem_replicate.1 hc).2]; exact ⟨by omega, by omega⟩)
  rw [List.map_replicate, ← hW2, List.length_replicate] at hS2
  have hS2 : SgAt W2 b f (q ++ List.replicate (136 - q.length) 0) ql := by
    obtain ⟨h1, h2, h3, h4⟩ := unhide HQ
    rw [h3, List.drop_eq_nil_of_le (by omega), List.append_nil, h1] at hS2
    rw [h1]; exact hS2
  have hg2 : W.grownBy W2 (some b) := hW2 ▸ grownSetCells b _ _ _
  have HG2 := hide (World.grownBy.trans (belowGrown b (unhide HB1)) hg2)
  have hO2 := (unhide HO1).grown hg2 hbN
  obtain ⟨W3, hW3⟩ : ∃ W, W = W2.drewN 1 := ⟨_, rfl⟩
  have HW3 : Hid (W3 = W2.drewN 1) := hW3
  have hS3 := hS2.keep (below_named HW3)
  have cf3 := hS3.fill
  have cb3 := hS3.byte ql (by have := unhide HQ; omega)
  have qb3 := hS3.free (25 + ql)
  have HS3 := hide hS3
  have HO3 := hide (hO2.keep (below_named HW3))
  clear hS2 hg2 hO2 hS3 hW2 hW3 cf HO1 HB1 HS1
  generalize (q ++ List.replicate (136 - q.length) 0).getD ql 0 = x3 at cb3
  go_wp2_with fail
  refine still_drew 8 W3 HW3 (by kernel_rfl) (by kernel_rfl) ?_
  simp only [List.take_succ_cons, List.take_zero, List.drop_succ_cons, List.drop_zero]
  repeat still_step
  refine wpStill_nil ?_
  clear cf3
  go_wp2_with fail
  obtain ⟨W4, hW4⟩ : ∃ W4, W4 = W3.setCell ⟨b, 25 + ql, none⟩ (.int .u8 6) := ⟨_, rfl⟩
  rw [← hW4]
  have hS4 : SgAt W4 b f (q ++ 6 :: List.replicate (135 - q.length) 0) ql := by
    have h := (unhide HS3).setByte ql (by have := unhide HQ; omega) 6 ⟨by omega, by omega⟩
    obtain ⟨h1, h2, h3, h4⟩ := unhide HQ
    rw [← hW4, h1, pad_set q (by omega)] at h
    rw [h1]; exact h
  have hg4 : W2.grownBy W4 (some b) := hW4 ▸ grownSet (belowGrown b (below_named HW3)) _ _
  have hO4 := (unhide HO3).grown (hW4 ▸ grownSet (World.grownBy.refl _ _) _ _ : W3.grownBy W4 (some b)) hbN
  have HG4 := hide ((unhide HG2).trans hg4)
  obtain ⟨W5, hW5⟩ : ∃ W, W = W4.drewN 1 := ⟨_, rfl⟩
  have HW5 : Hid (W5 = W4.drewN 1) := hW5
  have hS5 := hS4.keep (below_named HW5)
  have cb5 := hS5.byte 135 (by omega)
  have rb5 := hS5.range 135 (by omega)
  have qb5 := hS5.free 160
  have HS5 := hide hS5
  have HO5 := hide (hO4.keep (below_named HW5))
  clear hS4 hg4 hO4 hS5 hW4 hW5 cb3 qb3 HO3 HG2 HS3
  obtain ⟨x5, hx5⟩ : ∃ x, x = (q ++ 6 :: List.replicate (135 - q.length) 0).getD 135 0 := ⟨_, rfl⟩
  rw [← hx5] at cb5 rb5
  rw [show 25 + 135 = 160 from rfl] at cb5
  have HX5 := hide hx5
  have HR5 := hide rb5
  clear hx5 rb5
  go_wp2_with fail
  refine still_drew 9 W5 HW5 (by kernel_rfl) (by kernel_rfl) ?_
  simp only [List.take_succ_cons, List.take_zero, List.drop_succ_cons, List.drop_zero]
  repeat still_step
  refine wpStill_nil ?_
  go_wp2_with fail
  have hS6 := (unhide HS5).setByte 135 (by omega) (bits .xor .u8 x5 128) (xor_byt _ (unhide HR5))
  have e6 : (q ++ 6 :: List.replicate (135 - q.length) 0).set 135 (bits .xor .u8 x5 128) = padB q := by rw [unhide HX5]; rfl
  rw [show 25 + 135 = 160 from rfl, e6] at hS6
  have hg6 := grownSet (World.grownBy.trans (unhide HG4) (belowGrown b (below_named HW5))) 160 (Value.int .u8 (bits .xor .u8 x5 128))
  have hO6 := (unhide HO5).grown (grownSet (World.grownBy.refl _ _) 160 (Value.int .u8 (bits .xor .u8 x5 128))) hbN
  generalize W5.setCell ⟨b, 160, none⟩ (.int .u8 (bits .xor .u8 x5 128)) = W6 at *
  refine (absorb_any W6 b f _ _ hS6 ((unhide HT).grown hb hg6) hb).mono ?_; rintro e w7 ⟨rfl, hS7, hg7⟩
  obtain ⟨F, hF⟩ : ∃ F, F = absF f (padB q) := ⟨_, rfl⟩
  have HF := hide hF
  rw [← hF] at hS7
  have HO7 := hide (hO6.grown hg7 hbN)
  have HS7 := hide hS7
  have HG7 := hide (hg6.trans hg7)
  clear hS6 hg6 hO6 hS7 hg7 hF e6 HX5 HR5 HS5 HO5 HG4 cb5 qb5
  go_wp2_with fail
  go_loopg [31] 32 (fun g y wx => ∃ k : Nat, g + k = 32 ∧ y = .int .i64 (k : Int) ∧ ByAt wx N 24 ((outF F).take k ++ List.replicate (32 - k) 0) ∧ SgAt wx b F (padB q) 0 ∧ w.grownBy wx (some b))
  case atStart => exact ⟨0, rfl, rfl, unhide HO7, unhide HS7, unhide HG7⟩
  case round =>
    obtain ⟨k, hk, rfl, hO, hS, hg⟩ := hrel
    have HG := hide hg
    have HS := hide hS
    have HO := hide hO
    cases gk with
    | zero =>
      have hk5 : k = 32 := by omega
      subst hk5
      rw [List.take_of_length_le (Nat.le_of_eq (outF_length F)), Nat.sub_self, List.replicate_zero, List.append_nil] at hO
      have hol := outF_length F
      obtain ⟨l, hl⟩ : ∃ l, l = outF F := ⟨_, rfl⟩
      have HLF : Hid (l = outF F) := hl
      rw [← hl] at hO hol
      have hcl : (l.map (Value.int .u8)).length = 32 := by simpa using hol
      have hi : (Tryd.prog.info? 24).map (·.size) = some (l.map (Value.int .u8)).length := by rw [hcl]; kernel_rfl
      have h1 : (l.map (Value.int .u8)).toArray.all (·.oneCell') = true := all_oneCell_toArray fun v hv => by obtain ⟨x, _, rfl⟩ := List.mem_map.1 hv; rfl
      have hth : wr.there N 0 (l.map (Value.int .u8)).length := fun j hj => by
        rw [Nat.zero_add]
        exact ⟨by rw [hO.cell (by simpa using hj)]; rfl, hO.free j⟩
      obtain ⟨W9, hW9⟩ : ∃ W9, W9 = wr.setCells N 0 (l.map (Value.int .u8)) := ⟨_, rfl⟩
      have HR : Hid (W9.rangeAt N 0 (l.map (Value.int .u8))) := hW9 ▸ World.rangeAt_setCells_same wr N 0 _ hth
      have HG9 : Hid (w.grownBy W9 (some b)) := hW9 ▸ grownNew (unhide HG) (unhide HN) (grownSetCells N _ _ wr)
      have HI := hide hi
      have HRG := hide hO.range
      have HTH := hide hth
      have H1 := hide h1
      clear hS hg hO hcl hi h1 hth hol hl HO HS
      go_upto_region 10 with fail
      refine wp_region_list ?_
      refine wpList_load_mid rfl 24 (.tmp 2) rfl N 0 rfl (l.map (Value.int .u8)) _ (unhide HRG) Tryd.underlying24 rfl (unhide HI) ?_
      refine wpList_store_mid rfl 24 (.tmp 2) (.tmp 49) rfl N 0 (l.map (Value.int .u8)).toArray rfl rfl (by simpa using unhide HTH) (by simpa using unhide HI) (unhide H1) ?_
      rw [show (l.map (Value.int .u8)).toArray.toList = l.map (Value.int .u8) from rfl, ← hW9]
      clear hW9
      go_wp2_with fail
      try simp only [Exit.inBlock, Exit.then]
      refine bodyPost_ret (v := dv l) ?_ ?_ ?_
      · exact results_cell_mid rfl _ _ N (l.map (Value.int .u8)) _ rfl (unhide HR) Tryd.underlying24 rfl (unhide HI)
      · rfl
      · exact ⟨by rw [unhide HLF, unhide HF], unhide HG9⟩
    | succ g =>
      have hkn : k < 32 := by omega
      have hyt : (k : Int) < 32 := by omega
      have hy0 : (0 : Int) ≤ (k : Int) := Int.natCast_nonneg _
      have c0 := hS.at_.cell (j := k / 8) (by omega)
      have d0 := hO.cell (j := k) (by simp [outF_length]; omega)
      have q0 := hO.free k
      clear hS hg hO
      go_wp2_with fail
      go_roundg g
      case measure => omega
      case rel =>
        have hs := grownSet (World.grownBy.refl wr (some N)) k (Value.int .u8 (F (k / 8) / 2 ^ (8 * (k % 8)) % 256))
        refine ⟨k + 1, by omega, by push_cast; rfl, ?_, (unhide HS).other hbN _, grownNew (unhide HG) (unhide HN) hs⟩
        have h := (unhide HO).set k (F (k / 8) / 2 ^ (8 * (k % 8)) % 256)
        rw [out_next F k hkn] at h
        exact h
end Go.Proofs.YtceppmajbkmbdaaDoor
