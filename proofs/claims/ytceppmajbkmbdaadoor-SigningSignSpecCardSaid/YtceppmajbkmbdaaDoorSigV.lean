/- Contracts over the program of signing: Verify. -/
import Derived.Test.YtceppmajbkmbdaaDoorSigM2
import Derived.Test.YtceppmajbkmbdaaDoorDigBad
namespace Go.Proofs.YtceppmajbkmbdaaDoor
set_option linter.unusedSimpArgs false
set_option linter.unusedVariables false
open Go.RowKit

theorem built_shown (bits : List Bool) (A1 : Option Addr) (c1 : Nat) (A2 : Option Addr) (c2 : Nat) : Tryd.prog.built 94 [(0, dv (plS bits 64)), (1, Value.slice A1 64 c1), (2, Value.slice A2 64 c2)] = some (shownL bits A1 c1 A2 c2).toArray := by
  have hp : ((plS bits 64).map (Value.int .u8)).length = 128 := by rw [List.length_map, plS_length]
  have e : Tryd.prog.built 94 [(0, dv (plS bits 64)), (1, Value.slice A1 64 c1), (2, Value.slice A2 64 c2)] = Instr.fill ([(0, 128), (128, 1), (129, 1)].toArray[·]?) (List.replicate 128 (Value.int .u8 0) ++ [Value.slice none 0 0, Value.slice none 0 0]).toArray [(0, dv (plS bits 64)), (1, Value.slice A1 64 c1), (2, Value.slice A2 64 c2)] := by kernel_rfl
  generalize hq : (plS bits 64).map (Value.int .u8) = Q at hp e
  have hd : dv (plS bits 64) = .agg Q.toArray := by rw [← hq]
  rw [hd] at e ⊢
  have l1 : spliceV (List.replicate 128 (Value.int .u8 0) ++ [Value.slice none 0 0, Value.slice none 0 0]) Q 0 = Q ++ [Value.slice none 0 0, Value.slice none 0 0] := by
    have := spliceV_at [] (List.replicate 128 (Value.int .u8 0)) [Value.slice none 0 0, Value.slice none 0 0] Q 0 rfl (by simp [hp])
    simpa using this
  have l2 : spliceV (Q ++ [Value.slice none 0 0, Value.slice none 0 0]) [Value.slice A1 64 c1] 128 = Q ++ [Value.slice A1 64 c1, Value.slice none 0 0] := spliceV_at Q [Value.slice none 0 0] [Value.slice none 0 0] [Value.slice A1 64 c1] 128 hp.symm rfl
  have l3 : spliceV (Q ++ [Value.slice A1 64 c1, Value.slice none 0 0]) [Value.slice A2 64 c2] 129 = Q ++ [Value.slice A1 64 c1, Value.slice A2 64 c2] := by
    have := spliceV_at (Q ++ [Value.slice A1 64 c1]) [Value.slice none 0 0] [] [Value.slice A2 64 c2] 129 (by simp [hp]) rfl
    simpa using this
  rw [e, fill_splice _ _ 0 _ _ 0 128 rfl (by simpa [Value.cells] using hp) (by simp)]
  rw [show spliceV (List.replicate 128 (Value.int .u8 0) ++ [Value.slice none 0 0, Value.slice none 0 0]).toArray.toList (Value.agg Q.toArray).cells.toList 0 = Q ++ [Value.slice none 0 0, Value.slice none 0 0] from l1]
  rw [fill_splice _ _ 1 _ _ 128 1 rfl rfl (by simp [hp])]
  rw [show spliceV (Q ++ [Value.slice none 0 0, Value.slice none 0 0]).toArray.toList (Value.slice A1 64 c1).cells.toList 128 = Q ++ [Value.slice A1 64 c1, Value.slice none 0 0] from l2]
  rw [fill_splice _ _ 2 _ _ 129 1 rfl rfl (by simp [hp])]
  rw [show spliceV (Q ++ [Value.slice A1 64 c1, Value.slice none 0 0]).toArray.toList (Value.slice A2 64 c2).cells.toList 129 = Q ++ [Value.slice A1 64 c1, Value.slice A2 64 c2] from l3]
  rw [Instr.fill]
  unfold shownL
  rw [hq]
theorem build_shown (bits : List Bool) (A1 : Option Addr) (c1 : Nat) (A2 : Option Addr) (c2 : Nat) (w : World) : (Instr.build 94 #[(0, dv (plS bits 64)), (1, .slice A1 64 c1), (2, .slice A2 64 c2)]).run Tryd.prog w = .ok (.agg (shownL bits A1 c1 A2 c2).toArray) w := run_build w _ _ _ (built_shown bits A1 c1 A2 c2)
theorem wp_build3 {P : Program} {o : Oper} {a : Act} {w : World} {K : Act → World → Prop} {Q : Exit → Act → World → Prop} (t : TypeId) (i j k : Nat) (x y z : Operand) (ho : o.op = .build t #[(i, x), (j, y), (k, z)]) (u v s r : Value) (hx : a.eval x = u) (hy : a.eval y = v) (hz : a.eval z = s)
    (hr : (Instr.build t #[(i, u), (j, v), (k, s)]).run P w = .ok r w) (h : K (a.put o.dst r) w) : o.wp P a w K Q := by
  unfold Oper.wp execOp
  have e : (#[(i, x), (j, y), (k, z)].map fun (i, x) => (i, a.eval x)) = #[(i, u), (j, v), (k, s)] := by simp [hx, hy, hz]
  simp only [ho]
  rw [e]
  simp only [Sem.run_bind, Sem.run_pure, hr, Result.andThen_ok]
  exact h
theorem z94 : (Tryd.zeroCells94).toList.length = 130 := by kernel_rfl
theorem boxedZ (w W : World) (z : Array Value) (t : TypeId) (hW : W.heap = w.heap.push (.cells z t (0, 0))) : VsAt W w.heap.size t z.toList := by
  show W.heap[w.heap.size]? = _
  rw [hW, Array.getElem?_push_size]
theorem dg_shown {w w' : World} {A1 A2 : Option Addr} {c1 c2 : Nat} {bits : List Bool} {opened closed : List (List Int)} (h1 : Sg64 w A1 c1 opened) (h2 : Sg64 w' A2 c2 closed) (j b : Nat) (hj : j < 64) : Dg (shownS bits opened closed j b) := by
  unfold shownS
  split
  · exact dg_opnS _
  · rw [List.getD_eq_getElem?_getD, List.getElem?_eq_getElem (by rw [h2.len]; exact hj)]
    exact h2.at_.dg _ (List.getElem_mem _)
/-- Climb, whatever the path's length -/
theorem climb_both (many i : Nat) (h1 : 1 ≤ many) (h2 : many ≤ 4096) (hi : i < many) (path : List (List Int)) (pub : List Int) (bits : List Bool) (opened closed : List (List Int)) :
    ∃ (C : List Int) (e : Int), Dg C ∧ (e = 0 ∨ e = 1) ∧ (decide (e = 0) && decide (C = pub)) = verS pub many i bits opened closed path ∧
      ∀ (w : World) (m c : Nat) (A : Option Addr), m = path.length → m ≤ c → Ds w A path → DTab w → Calls Tryd.prog 20 #[dv (oneS (shownS bits opened closed)), .int .i64 (i : Int), .int .i64 (many : Int), .slice A m c] w fun x w' => x = .returned (.tuple #[dv C, .int .i64 e]) ∧ Below w.heap.size w w' := by
  by_cases hl : path.length = lenP many i
  · refine ⟨climbP (oneS (shownS bits opened closed)) many i path, 0, dg_climb _ _ _ _, .inl rfl, by simp [verS, hl], fun w m c A hm hmc hA hT => ?_⟩
    exact Climb_ok i many (by omega) h1 hi path hl (oneS (shownS bits opened closed)) w m c A hm (dg_hash _) hT hmc hA
      (fun W hb h1' h2' h3 => climb_any many (by omega) i (oneS (shownS bits opened closed)) path W hb m c A h1 hi hm.symm (by omega) hmc (dg_hash _) h3 h1' h2')
  · refine ⟨zeros, 1, ⟨rfl, fun c hc => by rw [(List.mem_replicate.1 hc).2]; exact ⟨by omega, by omega⟩⟩, .inr rfl, by simp [verS, hl], fun w m c A hm hmc hA hT => ?_⟩
    exact Climb_bad (i : Int) (many : Int) m (fun h => hl (by have h5 := h.2.2.2.2; rw [Int.toNat_natCast, Int.toNat_natCast] at h5; omega)) _ w c A (dg_hash _) hT

set_option maxRecDepth 100000 in
set_option maxHeartbeats 4000000 in
theorem Verify_no (w : World) (pub : List Int) (hp : Dg pub) (many i : Int) (Am : Option Addr) (nm cm : Nat) (A1 : Option Addr) (n1 c1 : Nat) (A2 : Option Addr) (n2 c2 : Nat) (A3 : Option Addr) (n3 c3 : Nat)
    (h : many < 1 ∨ 4096 < many ∨ i < 0 ∨ many ≤ i ∨ n1 ≠ 64 ∨ n2 ≠ 64) :
    Calls Tryd.prog 41 #[dv pub, .int .i64 many, .slice Am nm cm, sigV i A1 n1 c1 A2 n2 c2 A3 n3 c3] w fun x w' => x = .returned (.bool false) ∧ Below w.heap.size w w' := by
  obtain ⟨cd, hcd⟩ : ∃ cs, cs = (pub.map (Value.int .u8)).toArray := ⟨_, rfl⟩
  have hsd : cd.size = 32 := by rw [hcd]; simpa using hp.len
  rw [show dv pub = .agg cd by rw [hcd]]
  unfold sigV
  have hb2 : ∀ o o' : Obj, Below w.heap.size w ((w.alloc o).alloc o') := fun o o' => ((Below.refl _ _).alloc (Nat.le_refl _) _).alloc (by simp) _
  have HB := hide hb2
  clear hcd hp hb2
  by_cases a1 : many < 1
  · clear h
    go_enter Tryd.func41, Tryd.ntmps41
    go_wp2_with fail
    go_ret
    exact ⟨rfl, unhide HB _ _⟩
  by_cases a2 : 4096 < many
  · clear h
    go_enter Tryd.func41, Tryd.ntmps41
    go_wp2_with fail
    go_ret
    exact ⟨rfl, unhide HB _ _⟩
  by_cases a3 : i < 0
  · clear h
    go_enter Tryd.func41, Tryd.ntmps41
    go_wp2_with fail
    go_ret
    exact ⟨rfl, unhide HB _ _⟩
  by_cases a4 : many ≤ i
  · clear h
    go_enter Tryd.func41, Tryd.ntmps41
    go_wp2_with fail
    go_ret
    exact ⟨rfl, unhide HB _ _⟩
  by_cases a5 : (n1 : Int) = 64
  · have a6 : ¬ (n2 : Int) = 64 := by omega
    clear h
    go_enter Tryd.func41, Tryd.ntmps41
    go_wp2_with fail
    go_ret
    exact ⟨rfl, unhide HB _ _⟩
  · clear h
    go_enter Tryd.func41, Tryd.ntmps41
    go_wp2_with fail
    go_ret
    exact ⟨rfl, unhide HB _ _⟩

set_option maxRecDepth 100000 in
set_option maxHeartbeats 8000000 in
theorem Verify_any (w : World) (pub : List Int) (hp : Dg pub) (many i : Nat) (h1 : 1 ≤ many) (h2 : many ≤ 4096) (hi : i < many) (Am : Option Addr) (nm cm : Nat) (msg : List Int) (hnm : nm = msg.length) (hcm : nm ≤ cm) (hAm : Bt w Am msg) (hAm0 : Am = none → cm = 0) (h65 : nm ≤ 65536)
    (A1 : Option Addr) (c1 : Nat) (opened : List (List Int)) (hs1 : Sg64 w A1 c1 opened) (A2 : Option Addr) (c2 : Nat) (closed : List (List Int)) (hs2 : Sg64 w A2 c2 closed) (A3 : Option Addr) (n3 c3 : Nat) (path : List (List Int)) (hn3 : n3 = path.length) (hc3 : n3 ≤ c3) (hA3 : Ds w A3 path) (hT : DTab w) :
    Calls Tryd.prog 41 #[dv pub, .int .i64 (many : Int), .slice Am nm cm, sigV (i : Int) A1 64 c1 A2 64 c2 A3 n3 c3] w fun x w' => x = .returned (.bool (verS pub many i (bitsS pub i msg) opened closed path)) ∧ Below w.heap.size w w' := by
  have hmf : ∀ (fn : Fn) (first cap : Array Value) (w : World), (Instr.makeFunc fn first cap).run Tryd.prog w = .ok (.func fn first cap) w := fun _ _ _ _ => rfl
  obtain ⟨bs, hbs⟩ : ∃ b, b = bitsS pub i msg := ⟨_, rfl⟩
  rw [← hbs]
  have hbl : bs.length = 64 := by rw [hbs]; exact bitsS_length _ _ _
  obtain ⟨C, e, hgC, he, hver, hclimb⟩ := climb_both many i h1 h2 hi path pub bs opened closed
  rw [← hver]
  have HT := hide hT; have HM := hide hAm; have HP := hide hp; have HS1 := hide hs1; have HS2 := hide hs2; have HA3 := hide hA3; have HBS := hide hbs; have HBL := hide hbl; have HGC := hide hgC; have HCL := hide hclimb
  have HN : Hid (1 ≤ many ∧ many ≤ 4096 ∧ i < many ∧ nm = msg.length ∧ nm ≤ cm ∧ (Am = none → cm = 0) ∧ nm ≤ 65536 ∧ n3 = path.length ∧ n3 ≤ c3) := ⟨h1, h2, hi, hnm, hcm, hAm0, h65, hn3, hc3⟩
  have m1 : ¬ (many : Int) < 1 := by omega
  have m2 : ¬ 4096 < (many : Int) := by omega
  have i0 : ¬ (i : Int) < 0 := by omega
  have i1 : ¬ (many : Int) ≤ (i : Int) := by omega
  have n65 : ¬ (65536 : Int) < (nm : Int) := by omega
  obtain ⟨cd, hcd⟩ : ∃ cs, cs = (pub.map (Value.int .u8)).toArray := ⟨_, rfl⟩
  have hsd : cd.size = 32 := by rw [hcd]; simpa using hp.len
  have HCD := hide hcd
  rw [show dv pub = .agg cd by rw [hcd]]
  obtain ⟨cP, hcP⟩ : ∃ cs, cs = ((plS bs 64).map (Value.int .u8)).toArray := ⟨_, rfl⟩
  have HCP := hide hcP
  obtain ⟨cK, hcK⟩ : ∃ cs, cs = (shownL bs A1 c1 A2 c2).toArray := ⟨_, rfl⟩
  have HCK := hide hcK
  obtain ⟨O, hO⟩ : ∃ O, O = oneS (shownS bs opened closed) := ⟨_, rfl⟩
  have HO := hide hO
  have hgO : Dg O := hO ▸ dg_hash _
  obtain ⟨cO, hcO⟩ : ∃ cs, cs = (O.map (Value.int .u8)).toArray := ⟨_, rfl⟩
  have hsO : cO.size = 32 := by rw [hcO]; simpa using hgO.len
  have HCO := hide hcO
  obtain ⟨cC, hcC⟩ : ∃ cs, cs = (C.map (Value.int .u8)).toArray := ⟨_, rfl⟩
  have hsC : cC.size = 32 := by rw [hcC]; simpa using hgC.len
  have HCC := hide hcC
  have HE := hide he
  unfold sigV
  clear hT hp h1 h2 hi hnm hcm hAm hAm0 h65 hs1 hs2 hn3 hc3 hA3 hbs hbl hgC he hver hclimb hcd hcP hcK hO hgO hcO hcC
  go_enter Tryd.func41, Tryd.ntmps41
  go_upto_region 1 with fail
  generalize hX1 : w.alloc _ = W1
  have hB1 : Below w.heap.size w W1 := hX1 ▸ (Below.refl _ _).alloc (Nat.le_refl _) _
  have ho1 : ByAt W1 w.heap.size 24 pub := boxed w W1 pub _ (by rw [← hX1, unhide HCD]; rfl)
  have hz1 : W1.heap.size = w.heap.size + 1 := by rw [← hX1]; show (w.heap.push _).size = _; rw [Array.size_push]
  generalize hX2 : W1.alloc _ = W2
  have hB2 : Below W1.heap.size W1 W2 := hX2 ▸ (Below.refl _ _).alloc (Nat.le_refl _) _
  have ho2 : VsAt W2 W1.heap.size 52 [.int .i64 (i : Int), .slice A1 64 c1, .slice A2 64 c2, .slice A3 n3 c3] := boxedV W1 W2 _ _ (by rw [← hX2]; rfl)
  rw [hz1] at ho2
  have d0 : W2.cell? ⟨w.heap.size + 1, 0, none⟩ = some (.int .i64 (i : Int)) := ho2.cell rfl
  have d1 : W2.cell? ⟨w.heap.size + 1, 1, none⟩ = some (.slice A1 64 c1) := ho2.cell rfl
  have d2 : W2.cell? ⟨w.heap.size + 1, 2, none⟩ = some (.slice A2 64 c2) := ho2.cell rfl
  have HK1 := hide (ho1.keep hB2); have HK2 := hide ho2
  have HB2 := hide (thenB hB1 hB2)
  clear hX1 hX2 hB1 hB2 ho1 ho2 hz1
  go_wp2_with fail
  go_cut [9] (fun y9 wx => ∃ N, y9 = .pointer (some ⟨N, 0, none⟩) ∧ VsAt wx N 94 (shownL bs A1 c1 A2 c2) ∧ Below W2.heap.size W2 wx)
  case first =>
    obtain ⟨W, hW⟩ : ∃ W, W = W2.drewN 1 := ⟨_, rfl⟩
    have HW : Hid (W = W2.drewN 1) := hW
    have HE1 := hide ((unhide HK1).keep (below_named HW)); have HE2 := hide ((unhide HK2).keep (below_named HW))
    have hS0 : Below W2.heap.size W2 W := below_named HW
    have hSz : W2.heap.size ≤ W.heap.size := hS0.size
    have hD0 := (unhide HK1); have hD1 := (unhide HK2)
    clear hW d0 d1 d2
    refine held (S := Below W2.heap.size W2) W HW (by kernel_rfl) ?_
    refine wpAnyH_take (i := 0) (v := .agg cd) rfl (by kernel_rfl) (by kernel_rfl) (by kernel_rfl) (fun _ _ _ h => h) (by rw [unhide HCD]; exact yieldsIf_load_mid (by kernel_rfl) 24 (.tmp 4) rfl w.heap.size 0 rfl (pub.map (Value.int .u8)) _ (fun W hS => (hD0.keep hS).range) Tryd.underlying24 rfl (by rw [List.length_map, (unhide HP).len]; exact info32)) (by assumption) ?_
    try simp only [List.getElem_toArray, List.getElem_cons_zero, List.getElem_cons_succ, Act.put, List.setIfInBounds_toArray, List.set_cons_zero, List.set_cons_succ]
    refine wpAnyH_take (i := 1) (v := ?_) rfl (by kernel_rfl) (by kernel_rfl) (by kernel_rfl) (fun _ _ _ h => h) (Or.inl ⟨by kernel_rfl, ?_⟩) (by assumption) ?_
    rotate_left
    · intro Wt hSt
      go_simp
      try with_reducible rfl
    try simp only [List.getElem_toArray, List.getElem_cons_zero, List.getElem_cons_succ, Act.put, List.setIfInBounds_toArray, List.set_cons_zero, List.set_cons_succ]
    refine wpAnyH_take (i := 2) (v := ?_) rfl (by kernel_rfl) (by kernel_rfl) (by kernel_rfl) (fun _ _ _ h => h) (Or.inl ⟨by kernel_rfl, ?_⟩) (by assumption) ?_
    rotate_left
    · intro Wt hSt
      have hct := (show Wt.cell? ⟨w.heap.size + 1, 0, none⟩ = some (.int .i64 (i : Int)) from (hD1.keep hSt).cell rfl)
      go_simp
      try with_reducible rfl
    try simp only [List.getElem_toArray, List.getElem_cons_zero, List.getElem_cons_succ, Act.put, List.setIfInBounds_toArray, List.set_cons_zero, List.set_cons_succ]
    refine wpAnyH_take (i := 3) (v := ?_) rfl (by kernel_rfl) (by kernel_rfl) (by kernel_rfl) (fun _ _ _ h => h) (Or.inl ⟨by kernel_rfl, ?_⟩) (by assumption) ?_
    rotate_left
    · intro Wt hSt
      go_simp
      try with_reducible rfl
    try simp only [List.getElem_toArray, List.getElem_cons_zero, List.getElem_cons_succ, Act.put, List.setIfInBounds_toArray, List.set_cons_zero, List.set_cons_succ]
    refine wpAnyH_take (i := 6) (v := ?_) rfl (by kernel_rfl) (by kernel_rfl) (by kernel_rfl) (fun _ _ _ h => h) (Or.inl ⟨by kernel_rfl, ?_⟩) (by assumption) ?_
    rotate_left
    · intro Wt hSt
      go_simp
      try with_reducible rfl
    try simp only [List.getElem_toArray, List.getElem_cons_zero, List.getElem_cons_succ, Act.put, List.setIfInBounds_toArray, List.set_cons_zero, List.set_cons_succ]
    refine wpAnyH_take (i := 7) (v := ?_) rfl (by kernel_rfl) (by kernel_rfl) (by kernel_rfl) (fun _ _ _ h => h) (Or.inl ⟨by kernel_rfl, ?_⟩) (by assumption) ?_
    rotate_left
    · intro Wt hSt
      have hct := (show Wt.cell? ⟨w.heap.size + 1, 1, none⟩ = some (.slice A1 64 c1) from (hD1.keep hSt).cell rfl)
      go_simp
      try with_reducible rfl
    try simp only [List.getElem_toArray, List.getElem_cons_zero, List.getElem_cons_succ, Act.put, List.setIfInBounds_toArray, List.set_cons_zero, List.set_cons_succ]
    refine wpAnyH_take (i := 8) (v := ?_) rfl (by kernel_rfl) (by kernel_rfl) (by kernel_rfl) (fun _ _ _ h => h) (Or.inl ⟨by kernel_rfl, ?_⟩) (by assumption) ?_
    rotate_left
    · intro Wt hSt
      go_simp
      try with_reducible rfl
    try simp only [List.getElem_toArray, List.getElem_cons_zero, List.getElem_cons_succ, Act.put, List.setIfInBounds_toArray, List.set_cons_zero, List.set_cons_succ]
    refine wpAnyH_take (i := 9) (v := ?_) rfl (by kernel_rfl) (by kernel_rfl) (by kernel_rfl) (fun _ _ _ h => h) (Or.inl ⟨by kernel_rfl, ?_⟩) (by assumption) ?_
    rotate_left
    · intro Wt hSt
      have hct := (show Wt.cell? ⟨w.heap.size + 1, 2, none⟩ = some (.slice A2 64 c2) from (hD1.keep hSt).cell rfl)
      go_simp
      try with_reducible rfl
    try simp only [List.getElem_toArray, List.getElem_cons_zero, List.getElem_cons_succ, Act.put, List.setIfInBounds_toArray, List.set_cons_zero, List.set_cons_succ]
    refine wpAnyH_all (show Region.ready .any _ _ = [4, 11] by kernel_rfl) (by simp) fun x hx => ?_
    rcases (by simpa using hx : x = 4 ∨ x = 11) with rfl | rfl
    · clear hx
      refine wpOp_one 4 _ rfl (by kernel_rfl) fun K hK => ?_
      go_simp
      have hb := Bits_ok W pub (unhide HP) i (by have := unhide HN; omega) Am nm cm msg (unhide HN).2.2.2.1 (unhide HN).2.2.2.2.1 ((unhide HM).keep (thenB (unhide HB2) hS0)) (unhide HN).2.2.2.2.2.1 (by have := unhide HN; omega) ((unhide HT).keep (thenB (unhide HB2) hS0))
      rw [show dv pub = .agg cd by rw [unhide HCD]] at hb
      refine hb.mono ?_; rintro x V1 ⟨A5, c5, rfl, hc5, hL1, hB1⟩
      rw [← unhide HBS] at hc5 hL1 ⊢
      rw [unhide HBL] at hc5 ⊢
      have hS1 := thenB hS0 hB1
      dsimp only
      refine hK _ _ ⟨hS1, ?_⟩
      clear hK K
      try simp only [List.getElem_toArray, List.getElem_cons_zero, List.getElem_cons_succ, Act.put, List.setIfInBounds_toArray, List.set_cons_zero, List.set_cons_succ]
      refine wpAnyH_all (show Region.ready .any _ _ = [5, 11] by kernel_rfl) (by simp) fun x hx => ?_
      rcases (by simpa using hx : x = 5 ∨ x = 11) with rfl | rfl
      · clear hx
        refine wpOp_one 5 _ rfl (by kernel_rfl) fun K hK => ?_
        go_simp
        have hpl := placesOf_any V1 A5 c5 bs (unhide HBL) hc5 hL1
        rw [show dv (plS bs 64) = .agg cP by rw [unhide HCP]] at hpl
        refine hpl.mono ?_; rintro x V2 ⟨rfl, hB2⟩
        have hS2 := thenB hS1 hB2
        dsimp only
        refine hK _ _ ⟨hS2, ?_⟩
        clear hK K
        try simp only [List.getElem_toArray, List.getElem_cons_zero, List.getElem_cons_succ, Act.put, List.setIfInBounds_toArray, List.set_cons_zero, List.set_cons_succ]
        refine wpAnyH_all (show Region.ready .any _ _ = [10, 11] by kernel_rfl) (by simp) fun x hx => ?_
        rcases (by simpa using hx : x = 10 ∨ x = 11) with rfl | rfl
        · clear hx
          refine wpOp_one 10 _ rfl (by kernel_rfl) fun K hK => ?_
          refine wp_build3 94 0 1 2 (.tmp 49) (.tmp 51) (.tmp 53) rfl (dv (plS bs 64)) (.slice A1 64 c1) (.slice A2 64 c2) (.agg cK) (show Value.agg cP = _ by rw [unhide HCP]) rfl rfl (by rw [unhide HCK]; exact build_shown bs A1 c1 A2 c2 V2) ?_
          refine hK _ _ ⟨hS2, ?_⟩
          clear hK K
          try simp only [List.getElem_toArray, List.getElem_cons_zero, List.getElem_cons_succ, Act.put, List.setIfInBounds_toArray, List.set_cons_zero, List.set_cons_succ]
          refine wpAnyH_one 11 _ rfl (by kernel_rfl) (by kernel_rfl) ?_
          intro K hK
          go_simp
          generalize hX4 : V2.alloc _ = V4
          have hB4 : Below V2.heap.size V2 V4 := hX4 ▸ (Below.refl _ _).alloc (Nat.le_refl _) _
          have hZ4 : VsAt V4 V2.heap.size 94 (Tryd.zeroCells94).toList := boxedZ V2 V4 _ _ (by rw [← hX4]; rfl)
          have hS4 := thenB hS2 hB4
          clear hX4
          refine hK _ _ hS4 ?_
          clear hK K
          try simp only [List.getElem_toArray, List.getElem_cons_zero, List.getElem_cons_succ, Act.put, List.setIfInBounds_toArray, List.set_cons_zero, List.set_cons_succ]
          refine wpAnyH_chainOf [12] _ _ _ (by kernel_rfl) (by kernel_rfl) ?_
          simp only [List.filterMap_cons, List.filterMap_nil, List.getElem?_toArray, List.getElem?_cons_zero, List.getElem?_cons_succ]
          refine wpChain_vput rfl 94 (.tmp 9) (.tmp 54) rfl (V2.heap.size) 0 rfl (shownL bs A1 c1 A2 c2) (show Value.agg cK = _ by rw [unhide HCK]) (by rw [shownL_length]; exact info130) (shownL_one _ _ _ _ _) _ _ hZ4 (by rw [shownL_length, z94]; omega) ?_
          intro X5 HX5 HG5
          have hx5 := unhide HX5
          rw [spliceV_all _ _ (by rw [shownL_length, z94])] at hx5
          have hS5 : Below W2.heap.size W2 X5 := hS4.grown (unhide HG5) hS4.size (fun i e => by injection e with e; have := hS2.size; omega)
          refine ⟨hS5, wpChain_nil ?_⟩
          go_wp2_with fail
          go_meet
          exact ⟨_, rfl, hx5, hS5⟩
        · clear hx
          refine wpOp_one 11 _ rfl (by kernel_rfl) fun K hK => ?_
          go_simp
          generalize hX6 : V2.alloc _ = V6
          have hB6 : Below V2.heap.size V2 V6 := hX6 ▸ (Below.refl _ _).alloc (Nat.le_refl _) _
          have hZ6 : VsAt V6 V2.heap.size 94 (Tryd.zeroCells94).toList := boxedZ V2 V6 _ _ (by rw [← hX6]; rfl)
          have hS6 := thenB hS2 hB6
          clear hX6
          refine hK _ _ ⟨hS6, ?_⟩
          clear hK K
          try simp only [List.getElem_toArray, List.getElem_cons_zero, List.getElem_cons_succ, Act.put, List.setIfInBounds_toArray, List.set_cons_zero, List.set_cons_succ]
          refine wpAnyH_one 10 _ rfl (by kernel_rfl) (by kernel_rfl) ?_
          intro K hK
          refine wp_build3 94 0 1 2 (.tmp 49) (.tmp 51) (.tmp 53) rfl (dv (plS bs 64)) (.slice A1 64 c1) (.slice A2 64 c2) (.agg cK) (show Value.agg cP = _ by rw [unhide HCP]) rfl rfl (by rw [unhide HCK]; exact build_shown bs A1 c1 A2 c2 V6) ?_
          refine hK _ _ hS6 ?_
          clear hK K
          try simp only [List.getElem_toArray, List.getElem_cons_zero, List.getElem_cons_succ, Act.put, List.setIfInBounds_toArray, List.set_cons_zero, List.set_cons_succ]
          refine wpAnyH_chainOf [12] _ _ _ (by kernel_rfl) (by kernel_rfl) ?_
          simp only [List.filterMap_cons, List.filterMap_nil, List.getElem?_toArray, List.getElem?_cons_zero, List.getElem?_cons_succ]
          refine wpChain_vput rfl 94 (.tmp 9) (.tmp 54) rfl (V2.heap.size) 0 rfl (shownL bs A1 c1 A2 c2) (show Value.agg cK = _ by rw [unhide HCK]) (by rw [shownL_length]; exact info130) (shownL_one _ _ _ _ _) _ _ hZ6 (by rw [shownL_length, z94]; omega) ?_
          intro X8 HX8 HG8
          have hx8 := unhide HX8
          rw [spliceV_all _ _ (by rw [shownL_length, z94])] at hx8
          have hS8 : Below W2.heap.size W2 X8 := hS6.grown (unhide HG8) hS6.size (fun i e => by injection e with e; have := hS2.size; omega)
          refine ⟨hS8, wpChain_nil ?_⟩
          go_wp2_with fail
          go_meet
          exact ⟨_, rfl, hx8, hS8⟩
      · clear hx
        refine wpOp_one 11 _ rfl (by kernel_rfl) fun K hK => ?_
        go_simp
        generalize hX9 : V1.alloc _ = V9
        have hB9 : Below V1.heap.size V1 V9 := hX9 ▸ (Below.refl _ _).alloc (Nat.le_refl _) _
        have hZ9 : VsAt V9 V1.heap.size 94 (Tryd.zeroCells94).toList := boxedZ V1 V9 _ _ (by rw [← hX9]; rfl)
        have hS9 := thenB hS1 hB9
        have hL9 := hL1.keep hB9
        clear hX9
        refine hK _ _ ⟨hS9, ?_⟩
        clear hK K
        try simp only [List.getElem_toArray, List.getElem_cons_zero, List.getElem_cons_succ, Act.put, List.setIfInBounds_toArray, List.set_cons_zero, List.set_cons_succ]
        refine wpAnyH_one 5 _ rfl (by kernel_rfl) (by kernel_rfl) ?_
        intro K hK
        go_simp
        have hpl := placesOf_any V9 A5 c5 bs (unhide HBL) hc5 hL9
        rw [show dv (plS bs 64) = .agg cP by rw [unhide HCP]] at hpl
        refine hpl.mono ?_; rintro x V10 ⟨rfl, hB10⟩
        have hS10 := thenB hS9 hB10
        have hZ10 := hZ9.keep hB10
        dsimp only
        refine hK _ _ hS10 ?_
        clear hK K
        try simp only [List.getElem_toArray, List.getElem_cons_zero, List.getElem_cons_succ, Act.put, List.setIfInBounds_toArray, List.set_cons_zero, List.set_cons_succ]
        refine wpAnyH_one 10 _ rfl (by kernel_rfl) (by kernel_rfl) ?_
        intro K hK
        refine wp_build3 94 0 1 2 (.tmp 49) (.tmp 51) (.tmp 53) rfl (dv (plS bs 64)) (.slice A1 64 c1) (.slice A2 64 c2) (.agg cK) (show Value.agg cP = _ by rw [unhide HCP]) rfl rfl (by rw [unhide HCK]; exact build_shown bs A1 c1 A2 c2 V10) ?_
        refine hK _ _ hS10 ?_
        clear hK K
        try simp only [List.getElem_toArray, List.getElem_cons_zero, List.getElem_cons_succ, Act.put, List.setIfInBounds_toArray, List.set_cons_zero, List.set_cons_succ]
        refine wpAnyH_chainOf [12] _ _ _ (by kernel_rfl) (by kernel_rfl) ?_
        simp only [List.filterMap_cons, List.filterMap_nil, List.getElem?_toArray, List.getElem?_cons_zero, List.getElem?_cons_succ]
        refine wpChain_vput rfl 94 (.tmp 9) (.tmp 54) rfl (V1.heap.size) 0 rfl (shownL bs A1 c1 A2 c2) (show Value.agg cK = _ by rw [unhide HCK]) (by rw [shownL_length]; exact info130) (shownL_one _ _ _ _ _) _ _ hZ10 (by rw [shownL_length, z94]; omega) ?_
        intro X12 HX12 HG12
        have hx12 := unhide HX12
        rw [spliceV_all _ _ (by rw [shownL_length, z94])] at hx12
        have hS12 : Below W2.heap.size W2 X12 := hS10.grown (unhide HG12) hS10.size (fun i e => by injection e with e; have := hS1.size; omega)
        refine ⟨hS12, wpChain_nil ?_⟩
        go_wp2_with fail
        go_meet
        exact ⟨_, rfl, hx12, hS12⟩
    · clear hx
      refine wpOp_one 11 _ rfl (by kernel_rfl) fun K hK => ?_
      go_simp
      generalize hX13 : W.alloc _ = V13
      have hB13 : Below W.heap.size W V13 := hX13 ▸ (Below.refl _ _).alloc (Nat.le_refl _) _
      have hZ13 : VsAt V13 W.heap.size 94 (Tryd.zeroCells94).toList := boxedZ W V13 _ _ (by rw [← hX13]; rfl)
      have hS13 := thenB hS0 hB13
      clear hX13
      refine hK _ _ ⟨hS13, ?_⟩
      clear hK K
      try simp only [List.getElem_toArray, List.getElem_cons_zero, List.getElem_cons_succ, Act.put, List.setIfInBounds_toArray, List.set_cons_zero, List.set_cons_succ]
      refine wpAnyH_one 4 _ rfl (by kernel_rfl) (by kernel_rfl) ?_
      intro K hK
      go_simp
      have hb := Bits_ok V13 pub (unhide HP) i (by have := unhide HN; omega) Am nm cm msg (unhide HN).2.2.2.1 (unhide HN).2.2.2.2.1 ((unhide HM).keep (thenB (unhide HB2) hS13)) (unhide HN).2.2.2.2.2.1 (by have := unhide HN; omega) ((unhide HT).keep (thenB (unhide HB2) hS13))
      rw [show dv pub = .agg cd by rw [unhide HCD]] at hb
      refine hb.mono ?_; rintro x V14 ⟨A5, c5, rfl, hc5, hL14, hB14⟩
      rw [← unhide HBS] at hc5 hL14 ⊢
      rw [unhide HBL] at hc5 ⊢
      have hS14 := thenB hS13 hB14
      have hZ14 := hZ13.keep hB14
      dsimp only
      refine hK _ _ hS14 ?_
      clear hK K
      try simp only [List.getElem_toArray, List.getElem_cons_zero, List.getElem_cons_succ, Act.put, List.setIfInBounds_toArray, List.set_cons_zero, List.set_cons_succ]
      refine wpAnyH_one 5 _ rfl (by kernel_rfl) (by kernel_rfl) ?_
      intro K hK
      go_simp
      have hpl := placesOf_any V14 A5 c5 bs (unhide HBL) hc5 hL14
      rw [show dv (plS bs 64) = .agg cP by rw [unhide HCP]] at hpl
      refine hpl.mono ?_; rintro x V15 ⟨rfl, hB15⟩
      have hS15 := thenB hS14 hB15
      have hZ15 := hZ14.keep hB15
      dsimp only
      refine hK _ _ hS15 ?_
      clear hK K
      try simp only [List.getElem_toArray, List.getElem_cons_zero, List.getElem_cons_succ, Act.put, List.setIfInBounds_toArray, List.set_cons_zero, List.set_cons_succ]
      refine wpAnyH_one 10 _ rfl (by kernel_rfl) (by kernel_rfl) ?_
      intro K hK
      refine wp_build3 94 0 1 2 (.tmp 49) (.tmp 51) (.tmp 53) rfl (dv (plS bs 64)) (.slice A1 64 c1) (.slice A2 64 c2) (.agg cK) (show Value.agg cP = _ by rw [unhide HCP]) rfl rfl (by rw [unhide HCK]; exact build_shown bs A1 c1 A2 c2 V15) ?_
      refine hK _ _ hS15 ?_
      clear hK K
      try simp only [List.getElem_toArray, List.getElem_cons_zero, List.getElem_cons_succ, Act.put, List.setIfInBounds_toArray, List.set_cons_zero, List.set_cons_succ]
      refine wpAnyH_chainOf [12] _ _ _ (by kernel_rfl) (by kernel_rfl) ?_
      simp only [List.filterMap_cons, List.filterMap_nil, List.getElem?_toArray, List.getElem?_cons_zero, List.getElem?_cons_succ]
      refine wpChain_vput rfl 94 (.tmp 9) (.tmp 54) rfl (W.heap.size) 0 rfl (shownL bs A1 c1 A2 c2) (show Value.agg cK = _ by rw [unhide HCK]) (by rw [shownL_length]; exact info130) (shownL_one _ _ _ _ _) _ _ hZ15 (by rw [shownL_length, z94]; omega) ?_
      intro X17 HX17 HG17
      have hx17 := unhide HX17
      rw [spliceV_all _ _ (by rw [shownL_length, z94])] at hx17
      have hS17 : Below W2.heap.size W2 X17 := hS15.grown (unhide HG17) hS15.size (fun i e => by injection e with e; have := hS0.size; omega)
      refine ⟨hS17, wpChain_nil ?_⟩
      go_wp2_with fail
      go_meet
      exact ⟨_, rfl, hx17, hS17⟩
  case rest =>
    obtain ⟨NK, rfl, hK, hb⟩ := hcut
    have HK3 := hide hK
    have HBC := hide hb
    have HK2c := hide ((unhide HK2).keep hb)
    have HNK := hide (lt_of_block hK)
    clear hK hb d0 d1 d2
    go_wp2_with fail
    go_cut [10, 11] (fun y10 y11 wx => ∃ N, y10 = .pointer (some ⟨N, 0, none⟩) ∧ y11 = .int .i64 e ∧ ByAt wx N 24 C ∧ Below W2.heap.size W2 wx)
    case first =>
      obtain ⟨W, hW⟩ : ∃ W, W = wc.drewN 1 := ⟨_, rfl⟩
      have HW : Hid (W = wc.drewN 1) := hW
      have hD1 := (unhide HK2c); have hD3 := (unhide HK3)
      have hS0 : Below wc.heap.size wc W := below_named HW
      clear hW
      refine held (S := Below wc.heap.size wc) W HW (by kernel_rfl) ?_
      refine wpAnyH_take (i := 0) (v := .agg cK) rfl (by kernel_rfl) (by kernel_rfl) (by kernel_rfl) (fun _ _ _ h => h) (by rw [unhide HCK]; exact yieldsIf_load_mid (by kernel_rfl) 94 (.tmp 9) rfl NK 0 rfl (shownL bs A1 c1 A2 c2) _ (fun W hS => (hD3.keep hS).range) Tryd.underlying94 rfl (by rw [shownL_length]; exact info130)) (by assumption) ?_
      try simp only [List.getElem_toArray, List.getElem_cons_zero, List.getElem_cons_succ, Act.put, List.setIfInBounds_toArray, List.set_cons_zero, List.set_cons_succ]
      refine wpAnyH_take (i := 1) (v := ?_) rfl (by kernel_rfl) (by kernel_rfl) (by kernel_rfl) (fun _ _ _ h => h) (Or.inl ⟨by kernel_rfl, ?_⟩) (by assumption) ?_
      rotate_left
      · intro Wt hSt
        go_simp
        try with_reducible rfl
      try simp only [List.getElem_toArray, List.getElem_cons_zero, List.getElem_cons_succ, Act.put, List.setIfInBounds_toArray, List.set_cons_zero, List.set_cons_succ]
      refine wpAnyH_take (i := 3) (v := ?_) rfl (by kernel_rfl) (by kernel_rfl) (by kernel_rfl) (fun _ _ _ h => h) (Or.inl ⟨by kernel_rfl, ?_⟩) (by assumption) ?_
      rotate_left
      · intro Wt hSt
        go_simp
        try with_reducible rfl
      try simp only [List.getElem_toArray, List.getElem_cons_zero, List.getElem_cons_succ, Act.put, List.setIfInBounds_toArray, List.set_cons_zero, List.set_cons_succ]
      refine wpAnyH_take (i := 4) (v := ?_) rfl (by kernel_rfl) (by kernel_rfl) (by kernel_rfl) (fun _ _ _ h => h) (Or.inl ⟨by kernel_rfl, ?_⟩) (by assumption) ?_
      rotate_left
      · intro Wt hSt
        have hct := (show Wt.cell? ⟨w.heap.size + 1, 0, none⟩ = some (.int .i64 (i : Int)) from (hD1.keep hSt).cell rfl)
        go_simp
        try with_reducible rfl
      try simp only [List.getElem_toArray, List.getElem_cons_zero, List.getElem_cons_succ, Act.put, List.setIfInBounds_toArray, List.set_cons_zero, List.set_cons_succ]
      refine wpAnyH_take (i := 5) (v := ?_) rfl (by kernel_rfl) (by kernel_rfl) (by kernel_rfl) (fun _ _ _ h => h) (Or.inl ⟨by kernel_rfl, ?_⟩) (by assumption) ?_
      rotate_left
      · intro Wt hSt
        go_simp
        try with_reducible rfl
      try simp only [List.getElem_toArray, List.getElem_cons_zero, List.getElem_cons_succ, Act.put, List.setIfInBounds_toArray, List.set_cons_zero, List.set_cons_succ]
      refine wpAnyH_take (i := 6) (v := ?_) rfl (by kernel_rfl) (by kernel_rfl) (by kernel_rfl) (fun _ _ _ h => h) (Or.inl ⟨by kernel_rfl, ?_⟩) (by assumption) ?_
      rotate_left
      · intro Wt hSt
        go_simp
        try with_reducible rfl
      try simp only [List.getElem_toArray, List.getElem_cons_zero, List.getElem_cons_succ, Act.put, List.setIfInBounds_toArray, List.set_cons_zero, List.set_cons_succ]
      refine wpAnyH_take (i := 7) (v := ?_) rfl (by kernel_rfl) (by kernel_rfl) (by kernel_rfl) (fun _ _ _ h => h) (Or.inl ⟨by kernel_rfl, ?_⟩) (by assumption) ?_
      rotate_left
      · intro Wt hSt
        have hct := (show Wt.cell? ⟨w.heap.size + 1, 3, none⟩ = some (.slice A3 n3 c3) from (hD1.keep hSt).cell rfl)
        go_simp
        try with_reducible rfl
      try simp only [List.getElem_toArray, List.getElem_cons_zero, List.getElem_cons_succ, Act.put, List.setIfInBounds_toArray, List.set_cons_zero, List.set_cons_succ]
      refine wpAnyH_all (show Region.ready .any _ _ = [2, 12] by kernel_rfl) (by simp) fun x hx => ?_
      rcases (by simpa using hx : x = 2 ∨ x = 12) with rfl | rfl
      · clear hx
        refine wpOp_one 2 _ rfl (by kernel_rfl) fun K hK => ?_
        go_simp
        have hpk := publicKey_any 80 (.agg cK) (shownS bs opened closed) W (fun j b hj hb => dg_shown (unhide HS1) (unhide HS2) j b hj) run_shown (fun V' j b hj hb hBV => by rw [unhide HCK]; exact shown_any V' bs A1 c1 opened ((unhide HS1).keep (thenB (thenB (thenB (unhide HB2) (unhide HBC)) hS0) hBV)) A2 c2 closed ((unhide HS2).keep (thenB (thenB (thenB (unhide HB2) (unhide HBC)) hS0) hBV)) j b hj hb ((unhide HT).keep (thenB (thenB (thenB (unhide HB2) (unhide HBC)) hS0) hBV))) ((unhide HT).keep (thenB (thenB (unhide HB2) (unhide HBC)) hS0))
        rw [← unhide HO, show dv O = .agg cO by rw [unhide HCO]] at hpk
        refine hpk.mono ?_; rintro x V18 ⟨rfl, hB18⟩
        have hS18 := thenB hS0 hB18
        dsimp only
        refine hK _ _ ⟨hS18, ?_⟩
        clear hK K
        try simp only [List.getElem_toArray, List.getElem_cons_zero, List.getElem_cons_succ, Act.put, List.setIfInBounds_toArray, List.set_cons_zero, List.set_cons_succ]
        refine wpAnyH_all (show Region.ready .any _ _ = [8, 12] by kernel_rfl) (by simp) fun x hx => ?_
        rcases (by simpa using hx : x = 8 ∨ x = 12) with rfl | rfl
        · clear hx
          refine wpOp_one 8 _ rfl (by kernel_rfl) fun K hK => ?_
          go_simp
          have hcl := (unhide HCL) V18 n3 c3 A3 (by have := unhide HN; omega) (by have := unhide HN; omega) ((unhide HA3).keep (thenB (thenB (unhide HB2) (unhide HBC)) hS18)) ((unhide HT).keep (thenB (thenB (unhide HB2) (unhide HBC)) hS18))
          rw [← unhide HO, show dv O = .agg cO by rw [unhide HCO], show dv C = .agg cC by rw [unhide HCC]] at hcl
          refine hcl.mono ?_; rintro x V19 ⟨rfl, hB19⟩
          have hS19 := thenB hS18 hB19
          dsimp only
          refine hK _ _ ⟨hS19, ?_⟩
          clear hK K
          try simp only [List.getElem_toArray, List.getElem_cons_zero, List.getElem_cons_succ, Act.put, List.setIfInBounds_toArray, List.set_cons_zero, List.set_cons_succ]
          refine wpAnyH_take (i := 9) (v := ?_) rfl (by kernel_rfl) (by kernel_rfl) (by kernel_rfl) (fun _ _ _ h => h) (Or.inl ⟨by kernel_rfl, ?_⟩) (by assumption) ?_
          rotate_left
          · intro Wt hSt
            go_simp
            try with_reducible rfl
          try simp only [List.getElem_toArray, List.getElem_cons_zero, List.getElem_cons_succ, Act.put, List.setIfInBounds_toArray, List.set_cons_zero, List.set_cons_succ]
          refine wpAnyH_take (i := 10) (v := ?_) rfl (by kernel_rfl) (by kernel_rfl) (by kernel_rfl) (fun _ _ _ h => h) (Or.inl ⟨by kernel_rfl, ?_⟩) (by assumption) ?_
          rotate_left
          · intro Wt hSt
            go_simp
            try with_reducible rfl
          try simp only [List.getElem_toArray, List.getElem_cons_zero, List.getElem_cons_succ, Act.put, List.setIfInBounds_toArray, List.set_cons_zero, List.set_cons_succ]
          refine wpAnyH_take (i := 11) (v := ?_) rfl (by kernel_rfl) (by kernel_rfl) (by kernel_rfl) (fun _ _ _ h => h) (Or.inl ⟨by kernel_rfl, ?_⟩) (by assumption) ?_
          rotate_left
          · intro Wt hSt
            go_simp
            try with_reducible rfl
          try simp only [List.getElem_toArray, List.getElem_cons_zero, List.getElem_cons_succ, Act.put, List.setIfInBounds_toArray, List.set_cons_zero, List.set_cons_succ]
          refine wpAnyH_one 12 _ rfl (by kernel_rfl) (by kernel_rfl) ?_
          intro K hK
          go_simp
          generalize hX20 : V19.alloc _ = V20
          have hB20 : Below V19.heap.size V19 V20 := hX20 ▸ (Below.refl _ _).alloc (Nat.le_refl _) _
          have hZ20 : ByAt V20 V19.heap.size 24 zeros := newBy V19 V20 (by rw [← hX20]; rfl)
          have hS20 := thenB hS19 hB20
          clear hX20
          refine hK _ _ hS20 ?_
          clear hK K
          try simp only [List.getElem_toArray, List.getElem_cons_zero, List.getElem_cons_succ, Act.put, List.setIfInBounds_toArray, List.set_cons_zero, List.set_cons_succ]
          refine wpAnyH_chainOf [13, 14] _ _ _ (by kernel_rfl) (by kernel_rfl) ?_
          simp only [List.filterMap_cons, List.filterMap_nil, List.getElem?_toArray, List.getElem?_cons_zero, List.getElem?_cons_succ]
          refine wpChain_bstore rfl 24 (.tmp 10) (.tmp 65) rfl (V19.heap.size) rfl C (show Value.agg cC = _ by rw [unhide HCC]) 32 info32 (unhide HGC).len _ zeros hZ20 rfl ?_
          intro X21 HX21 HG21
          have hS21 : Below wc.heap.size wc X21 := hS20.grown (unhide HG21) hS20.size (fun i e => by injection e with e; have := hS19.size; omega)
          refine ⟨hS21, ?_⟩
          refine wpChain_step rfl fun K hK => ?_
          go_simp
          refine hK _ _ hS21 (wpChain_nil ?_)
          clear hK K
          go_wp2_with fail
          go_meet
          exact ⟨_, rfl, rfl, unhide HX21, thenB (unhide HBC) hS21⟩
        · clear hx
          refine wpOp_one 12 _ rfl (by kernel_rfl) fun K hK => ?_
          go_simp
          generalize hX22 : V18.alloc _ = V22
          have hB22 : Below V18.heap.size V18 V22 := hX22 ▸ (Below.refl _ _).alloc (Nat.le_refl _) _
          have hZ22 : ByAt V22 V18.heap.size 24 zeros := newBy V18 V22 (by rw [← hX22]; rfl)
          have hS22 := thenB hS18 hB22
          clear hX22
          refine hK _ _ ⟨hS22, ?_⟩
          clear hK K
          try simp only [List.getElem_toArray, List.getElem_cons_zero, List.getElem_cons_succ, Act.put, List.setIfInBounds_toArray, List.set_cons_zero, List.set_cons_succ]
          refine wpAnyH_one 8 _ rfl (by kernel_rfl) (by kernel_rfl) ?_
          intro K hK
          go_simp
          have hcl := (unhide HCL) V22 n3 c3 A3 (by have := unhide HN; omega) (by have := unhide HN; omega) ((unhide HA3).keep (thenB (thenB (unhide HB2) (unhide HBC)) hS22)) ((unhide HT).keep (thenB (thenB (unhide HB2) (unhide HBC)) hS22))
          rw [← unhide HO, show dv O = .agg cO by rw [unhide HCO], show dv C = .agg cC by rw [unhide HCC]] at hcl
          refine hcl.mono ?_; rintro x V23 ⟨rfl, hB23⟩
          have hS23 := thenB hS22 hB23
          have hZ23 := hZ22.keep hB23
          dsimp only
          refine hK _ _ hS23 ?_
          clear hK K
          try simp only [List.getElem_toArray, List.getElem_cons_zero, List.getElem_cons_succ, Act.put, List.setIfInBounds_toArray, List.set_cons_zero, List.set_cons_succ]
          refine wpAnyH_take (i := 9) (v := ?_) rfl (by kernel_rfl) (by kernel_rfl) (by kernel_rfl) (fun _ _ _ h => h) (Or.inl ⟨by kernel_rfl, ?_⟩) (by assumption) ?_
          rotate_left
          · intro Wt hSt
            go_simp
            try with_reducible rfl
          try simp only [List.getElem_toArray, List.getElem_cons_zero, List.getElem_cons_succ, Act.put, List.setIfInBounds_toArray, List.set_cons_zero, List.set_cons_succ]
          refine wpAnyH_take (i := 10) (v := ?_) rfl (by kernel_rfl) (by kernel_rfl) (by kernel_rfl) (fun _ _ _ h => h) (Or.inl ⟨by kernel_rfl, ?_⟩) (by assumption) ?_
          rotate_left
          · intro Wt hSt
            go_simp
            try with_reducible rfl
          try simp only [List.getElem_toArray, List.getElem_cons_zero, List.getElem_cons_succ, Act.put, List.setIfInBounds_toArray, List.set_cons_zero, List.set_cons_succ]
          refine wpAnyH_take (i := 11) (v := ?_) rfl (by kernel_rfl) (by kernel_rfl) (by kernel_rfl) (fun _ _ _ h => h) (Or.inl ⟨by kernel_rfl, ?_⟩) (by assumption) ?_
          rotate_left
          · intro Wt hSt
            go_simp
            try with_reducible rfl
          try simp only [List.getElem_toArray, List.getElem_cons_zero, List.getElem_cons_succ, Act.put, List.setIfInBounds_toArray, List.set_cons_zero, List.set_cons_succ]
          refine wpAnyH_chainOf [13, 14] _ _ _ (by kernel_rfl) (by kernel_rfl) ?_
          simp only [List.filterMap_cons, List.filterMap_nil, List.getElem?_toArray, List.getElem?_cons_zero, List.getElem?_cons_succ]
          refine wpChain_bstore rfl 24 (.tmp 10) (.tmp 65) rfl (V18.heap.size) rfl C (show Value.agg cC = _ by rw [unhide HCC]) 32 info32 (unhide HGC).len _ zeros hZ23 rfl ?_
          intro X24 HX24 HG24
          have hS24 : Below wc.heap.size wc X24 := hS23.grown (unhide HG24) hS23.size (fun i e => by injection e with e; have := hS18.size; omega)
          refine ⟨hS24, ?_⟩
          refine wpChain_step rfl fun K hK => ?_
          go_simp
          refine hK _ _ hS24 (wpChain_nil ?_)
          clear hK K
          go_wp2_with fail
          go_meet
          exact ⟨_, rfl, rfl, unhide HX24, thenB (unhide HBC) hS24⟩
      · clear hx
        refine wpOp_one 12 _ rfl (by kernel_rfl) fun K hK => ?_
        go_simp
        generalize hX25 : W.alloc _ = V25
        have hB25 : Below W.heap.size W V25 := hX25 ▸ (Below.refl _ _).alloc (Nat.le_refl _) _
        have hZ25 : ByAt V25 W.heap.size 24 zeros := newBy W V25 (by rw [← hX25]; rfl)
        have hS25 := thenB hS0 hB25
        clear hX25
        refine hK _ _ ⟨hS25, ?_⟩
        clear hK K
        try simp only [List.getElem_toArray, List.getElem_cons_zero, List.getElem_cons_succ, Act.put, List.setIfInBounds_toArray, List.set_cons_zero, List.set_cons_succ]
        refine wpAnyH_one 2 _ rfl (by kernel_rfl) (by kernel_rfl) ?_
        intro K hK
        go_simp
        have hpk := publicKey_any 80 (.agg cK) (shownS bs opened closed) V25 (fun j b hj hb => dg_shown (unhide HS1) (unhide HS2) j b hj) run_shown (fun V' j b hj hb hBV => by rw [unhide HCK]; exact shown_any V' bs A1 c1 opened ((unhide HS1).keep (thenB (thenB (thenB (unhide HB2) (unhide HBC)) hS25) hBV)) A2 c2 closed ((unhide HS2).keep (thenB (thenB (thenB (unhide HB2) (unhide HBC)) hS25) hBV)) j b hj hb ((unhide HT).keep (thenB (thenB (thenB (unhide HB2) (unhide HBC)) hS25) hBV))) ((unhide HT).keep (thenB (thenB (unhide HB2) (unhide HBC)) hS25))
        rw [← unhide HO, show dv O = .agg cO by rw [unhide HCO]] at hpk
        refine hpk.mono ?_; rintro x V26 ⟨rfl, hB26⟩
        have hS26 := thenB hS25 hB26
        have hZ26 := hZ25.keep hB26
        dsimp only
        refine hK _ _ hS26 ?_
        clear hK K
        try simp only [List.getElem_toArray, List.getElem_cons_zero, List.getElem_cons_succ, Act.put, List.setIfInBounds_toArray, List.set_cons_zero, List.set_cons_succ]
        refine wpAnyH_one 8 _ rfl (by kernel_rfl) (by kernel_rfl) ?_
        intro K hK
        go_simp
        have hcl := (unhide HCL) V26 n3 c3 A3 (by have := unhide HN; omega) (by have := unhide HN; omega) ((unhide HA3).keep (thenB (thenB (unhide HB2) (unhide HBC)) hS26)) ((unhide HT).keep (thenB (thenB (unhide HB2) (unhide HBC)) hS26))
        rw [← unhide HO, show dv O = .agg cO by rw [unhide HCO], show dv C = .agg cC by rw [unhide HCC]] at hcl
        refine hcl.mono ?_; rintro x V27 ⟨rfl, hB27⟩
        have hS27 := thenB hS26 hB27
        have hZ27 := hZ26.keep hB27
        dsimp only
        refine hK _ _ hS27 ?_
        clear hK K
        try simp only [List.getElem_toArray, List.getElem_cons_zero, List.getElem_cons_succ, Act.put, List.setIfInBounds_toArray, List.set_cons_zero, List.set_cons_succ]
        refine wpAnyH_take (i := 9) (v := ?_) rfl (by kernel_rfl) (by kernel_rfl) (by kernel_rfl) (fun _ _ _ h => h) (Or.inl ⟨by kernel_rfl, ?_⟩) (by assumption) ?_
        rotate_left
        · intro Wt hSt
          go_simp
          try with_reducible rfl
        try simp only [List.getElem_toArray, List.getElem_cons_zero, List.getElem_cons_succ, Act.put, List.setIfInBounds_toArray, List.set_cons_zero, List.set_cons_succ]
        refine wpAnyH_take (i := 10) (v := ?_) rfl (by kernel_rfl) (by kernel_rfl) (by kernel_rfl) (fun _ _ _ h => h) (Or.inl ⟨by kernel_rfl, ?_⟩) (by assumption) ?_
        rotate_left
        · intro Wt hSt
          go_simp
          try with_reducible rfl
        try simp only [List.getElem_toArray, List.getElem_cons_zero, List.getElem_cons_succ, Act.put, List.setIfInBounds_toArray, List.set_cons_zero, List.set_cons_succ]
        refine wpAnyH_take (i := 11) (v := ?_) rfl (by kernel_rfl) (by kernel_rfl) (by kernel_rfl) (fun _ _ _ h => h) (Or.inl ⟨by kernel_rfl, ?_⟩) (by assumption) ?_
        rotate_left
        · intro Wt hSt
          go_simp
          try with_reducible rfl
        try simp only [List.getElem_toArray, List.getElem_cons_zero, List.getElem_cons_succ, Act.put, List.setIfInBounds_toArray, List.set_cons_zero, List.set_cons_succ]
        refine wpAnyH_chainOf [13, 14] _ _ _ (by kernel_rfl) (by kernel_rfl) ?_
        simp only [List.filterMap_cons, List.filterMap_nil, List.getElem?_toArray, List.getElem?_cons_zero, List.getElem?_cons_succ]
        refine wpChain_bstore rfl 24 (.tmp 10) (.tmp 65) rfl (W.heap.size) rfl C (show Value.agg cC = _ by rw [unhide HCC]) 32 info32 (unhide HGC).len _ zeros hZ27 rfl ?_
        intro X28 HX28 HG28
        have hS28 : Below wc.heap.size wc X28 := hS27.grown (unhide HG28) hS27.size (fun i e => by injection e with e; have := hS0.size; omega)
        refine ⟨hS28, ?_⟩
        refine wpChain_step rfl fun K hK => ?_
        go_simp
        refine hK _ _ hS28 (wpChain_nil ?_)
        clear hK K
        go_wp2_with fail
        go_meet
        exact ⟨_, rfl, rfl, unhide HX28, thenB (unhide HBC) hS28⟩
    case rest =>
      obtain ⟨NC, rfl, rfl, hC, hb⟩ := hcut
      have HC9 := hide hC
      have HP9 := hide ((unhide HK1).keep hb)
      have HB9 := hide (thenB (unhide HB2) hb)
      clear hC hb HK3 HBC HK2c HNK
      rcases unhide HE with rfl | rfl
      · go_upto_region 7 with fail
        refine wp_region_lit ?_
        refine wpList_wanted (by kernel_rfl) fun Kt hKt => ?_
        go_simp
        refine hKt _ _ ?_
        clear hKt Kt
        refine wpList_wanted (by kernel_rfl) fun Kt hKt => ?_
        go_simp
        refine hKt _ _ ?_
        clear hKt Kt
        refine wpList_wanted (by kernel_rfl) fun Kt hKt => ?_
        go_simp
        refine hKt _ _ ?_
        clear hKt Kt
        refine wpList_gload (by kernel_rfl) 24 (.tmp 10) rfl NC rfl _ Tryd.underlying24 rfl 32 info32 _ C (unhide HC9) (unhide HGC).len ?_
        refine wpList_gload (by kernel_rfl) 24 (.tmp 4) rfl w.heap.size rfl _ Tryd.underlying24 rfl 32 info32 _ pub (unhide HP9) (unhide HP).len ?_
        refine wpList_eql (by kernel_rfl) (.tmp 70) (.tmp 71) _ rfl C pub rfl rfl (unhide HGC).len (unhide HP).len ?_
        obtain ⟨b, hb⟩ : ∃ b, b = decide (C = pub) := ⟨_, rfl⟩
        rw [← hb, show dv C = .agg cC by rw [unhide HCC], show dv pub = .agg cd by rw [unhide HCD]]
        have HB := hide hb
        clear hb
        try simp only [List.getElem_toArray, List.getElem_cons_zero, List.getElem_cons_succ, Act.put, List.setIfInBounds_toArray, List.set_cons_zero, List.set_cons_succ]
        go_wp2_with fail
        go_ret
        refine ⟨?_, unhide HB9⟩
        rw [← unhide HB]
        simp
      · go_wp2_with fail
        go_ret
        exact ⟨by simp, unhide HB9⟩
end Go.Proofs.YtceppmajbkmbdaaDoor
