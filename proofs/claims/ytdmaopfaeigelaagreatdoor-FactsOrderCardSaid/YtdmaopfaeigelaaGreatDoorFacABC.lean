/- Contracts over the program of facts: numbers in ranges, games, appeals, moves, goals. Contracts over the program of facts: lists of numbers. Contracts over the program of facts: names and entrants. Contracts over the program of facts: entrants. -/
import Derived.Test.YtdmaopfaeigelaaGreatDoorFacVal
namespace Go.Proofs.YtdmaopfaeigelaaGreatDoor
set_option linter.unusedSimpArgs false
set_option linter.unusedVariables false
open Go.RowKit

theorem bne_dec (a b : Int) : (a != b) = !decide (a = b) := by by_cases h : a = b <;> simp [h]
theorem beq_dec (a b : Int) : (a == b) = decide (a = b) := by by_cases h : a = b <;> simp [h]
theorem within_any (n a b : Int) (w : World) : Calls Tryz.prog 113 #[.int .i64 n, .int .i64 a, .int .i64 b] w fun x w' => x = .returned (.bool (inR n a b)) ∧ w' = w := by
  unfold inR
  by_cases h1 : a ≤ n
  · by_cases h2 : n ≤ b
    · rw [decide_eq_true h1, decide_eq_true h2]
      go_enter Tryz.func113, Tryz.ntmps113
      go_wp2_with fail
      go_ret
      exact ⟨rfl, rfl⟩
    · rw [decide_eq_true h1, decide_eq_false h2]
      go_enter Tryz.func113, Tryz.ntmps113
      go_wp2_with fail
      go_ret
      exact ⟨rfl, rfl⟩
  · rw [decide_eq_false h1]
    go_enter Tryz.func113, Tryz.ntmps113
    go_wp2_with fail
    go_ret
    exact ⟨rfl, rfl⟩
theorem season_any (n : Int) (w : World) : Calls Tryz.prog 71 #[.int .i64 n] w fun x w' => x = .returned (.bool (inR n 0 63)) ∧ w' = w := by
  go_enter Tryz.func71, Tryz.ntmps71
  go_wp2_with fail
  refine (within_any n 0 63 w).mono ?_; rintro x W2 ⟨rfl, rfl⟩
  go_wp2_with fail
  go_ret
  exact ⟨rfl, rfl⟩
theorem comp_any (n : Int) (w : World) : Calls Tryz.prog 72 #[.int .i64 n] w fun x w' => x = .returned (.bool (inR n 0 15)) ∧ w' = w := by
  go_enter Tryz.func72, Tryz.ntmps72
  go_wp2_with fail
  refine (within_any n 0 15 w).mono ?_; rintro x W2 ⟨rfl, rfl⟩
  go_wp2_with fail
  go_ret
  exact ⟨rfl, rfl⟩
theorem club_any (n : Int) (w : World) : Calls Tryz.prog 73 #[.int .i64 n] w fun x w' => x = .returned (.bool (inR n 0 191)) ∧ w' = w := by
  go_enter Tryz.func73, Tryz.ntmps73
  go_wp2_with fail
  refine (within_any n 0 191 w).mono ?_; rintro x W2 ⟨rfl, rfl⟩
  go_wp2_with fail
  go_ret
  exact ⟨rfl, rfl⟩
theorem player_any (n : Int) (w : World) : Calls Tryz.prog 197 #[.int .i64 n] w fun x w' => x = .returned (.bool (inR n 0 8191)) ∧ w' = w := by
  go_enter Tryz.func197, Tryz.ntmps197
  go_wp2_with fail
  refine (within_any n 0 8191 w).mono ?_; rintro x W2 ⟨rfl, rfl⟩
  go_wp2_with fail
  go_ret
  exact ⟨rfl, rfl⟩
theorem day_any (n : Int) (w : World) : Calls Tryz.prog 64 #[.int .i64 n] w fun x w' => x = .returned (.bool (inR n 0 1048576)) ∧ w' = w := by
  go_enter Tryz.func64, Tryz.ntmps64
  go_wp2_with fail
  refine (within_any n 0 1048576 w).mono ?_; rintro x W2 ⟨rfl, rfl⟩
  go_wp2_with fail
  go_ret
  exact ⟨rfl, rfl⟩
theorem case_any (n : Int) (w : World) : Calls Tryz.prog 196 #[.int .i64 n] w fun x w' => x = .returned (.bool (inR n 1 1048576)) ∧ w' = w := by
  go_enter Tryz.func196, Tryz.ntmps196
  go_wp2_with fail
  refine (within_any n 1 1048576 w).mono ?_; rintro x W2 ⟨rfl, rfl⟩
  go_wp2_with fail
  go_ret
  exact ⟨rfl, rfl⟩
theorem league_any (n : Int) (w : World) : Calls Tryz.prog 188 #[.int .i64 n] w fun x w' => x = .returned (.bool (decide (n < 8))) ∧ w' = w := by
  go_enter Tryz.func188, Tryz.ntmps188
  go_wp2_with fail
  go_ret
  exact ⟨rfl, rfl⟩
set_option maxRecDepth 100000 in
theorem game_any (g : Gm) (w : World) : Calls Tryz.prog 37 #[.agg (gC g).toArray] w fun x w' => x = .returned (.bool (okGame g)) ∧ Below w.heap.size w w' := by
  obtain ⟨s, c, h, a⟩ := g
  unfold okGame gC
  obtain ⟨b0, hb0⟩ : ∃ b, b = inR s 0 63 := ⟨_, rfl⟩
  rw [← hb0]
  have HC0 := hide fun W => season_any s W
  rw [← hb0] at HC0
  clear hb0
  obtain ⟨b1, hb1⟩ : ∃ b, b = inR c 0 15 := ⟨_, rfl⟩
  rw [← hb1]
  have HC1 := hide fun W => comp_any c W
  rw [← hb1] at HC1
  clear hb1
  obtain ⟨b2, hb2⟩ : ∃ b, b = inR h 0 191 := ⟨_, rfl⟩
  rw [← hb2]
  have HC2 := hide fun W => club_any h W
  rw [← hb2] at HC2
  clear hb2
  obtain ⟨b3, hb3⟩ : ∃ b, b = inR a 0 191 := ⟨_, rfl⟩
  rw [← hb3]
  have HC3 := hide fun W => club_any a W
  rw [← hb3] at HC3
  clear hb3
  go_enter Tryz.func37, Tryz.ntmps37
  go_upto_region 1 with fail
  generalize hX1 : w.alloc _ = W1
  have hB1 : Below w.heap.size w W1 := hX1 ▸ (Below.refl _ _).alloc (Nat.le_refl _) _
  have HV := hide (boxedV w W1 [.int .i64 s, .int .i64 c, .int .i64 h, .int .i64 a] 26 (by rw [← hX1]; rfl))
  have hc0 : W1.cell? ⟨w.heap.size, 0, none⟩ = some (.int .i64 s) := (unhide HV).cell rfl
  have hc1 : W1.cell? ⟨w.heap.size, 1, none⟩ = some (.int .i64 c) := (unhide HV).cell rfl
  have hc2 : W1.cell? ⟨w.heap.size, 2, none⟩ = some (.int .i64 h) := (unhide HV).cell rfl
  have hc3 : W1.cell? ⟨w.heap.size, 3, none⟩ = some (.int .i64 a) := (unhide HV).cell rfl
  have HB := hide hB1
  clear hX1 hB1
  go_wp2_with fail
  refine ((unhide HC0) W1).mono ?_; rintro x W2 ⟨rfl, rfl⟩
  cases b0
  case false =>
    go_wp2_with fail
    go_ret
    exact ⟨by simp, unhide HB⟩
  go_wp2_with fail
  refine ((unhide HC1) W2).mono ?_; rintro x W3 ⟨rfl, rfl⟩
  cases b1
  case false =>
    go_wp2_with fail
    go_ret
    exact ⟨by simp, unhide HB⟩
  go_wp2_with fail
  refine ((unhide HC2) W3).mono ?_; rintro x W4 ⟨rfl, rfl⟩
  cases b2
  case false =>
    go_wp2_with fail
    go_ret
    exact ⟨by simp, unhide HB⟩
  go_wp2_with fail
  refine ((unhide HC3) W4).mono ?_; rintro x W5 ⟨rfl, rfl⟩
  cases b3
  case false =>
    go_wp2_with fail
    go_ret
    exact ⟨by simp, unhide HB⟩
  go_wp2_with fail
  go_ret
  exact ⟨by simp [bne_dec, beq_dec], unhide HB⟩
set_option maxRecDepth 100000 in
theorem goals_any (h a : Int) (w : World) : Calls Tryz.prog 190 #[.int .i64 h, .int .i64 a] w fun x w' => x = .returned (.bool (inR h 0 99 && inR a 0 99)) ∧ Below w.heap.size w w' := by
  obtain ⟨b0, hb0⟩ : ∃ b, b = inR h 0 99 := ⟨_, rfl⟩
  rw [← hb0]
  have HC0 := hide fun W => within_any h 0 99 W
  rw [← hb0] at HC0
  clear hb0
  obtain ⟨b1, hb1⟩ : ∃ b, b = inR a 0 99 := ⟨_, rfl⟩
  rw [← hb1]
  have HC1 := hide fun W => within_any a 0 99 W
  rw [← hb1] at HC1
  clear hb1
  go_enter Tryz.func190, Tryz.ntmps190
  have HB := hide (Below.refl w.heap.size w)
  go_wp2_with fail
  refine ((unhide HC0) w).mono ?_; rintro x W2 ⟨rfl, rfl⟩
  cases b0
  case false =>
    go_wp2_with fail
    go_ret
    exact ⟨by simp, unhide HB⟩
  go_wp2_with fail
  refine ((unhide HC1) W2).mono ?_; rintro x W3 ⟨rfl, rfl⟩
  go_wp2_with fail
  go_ret
  exact ⟨by simp, unhide HB⟩
set_option maxRecDepth 100000 in
theorem appeal_any (c i : Int) (s : Bool) (w : World) : Calls Tryz.prog 122 #[.agg #[.int .i64 c, .int .i64 i, .bool s]] w fun x w' => x = .returned (.bool (inR c 1 1048576 && inR i 1 2)) ∧ Below w.heap.size w w' := by
  obtain ⟨b0, hb0⟩ : ∃ b, b = inR c 1 1048576 := ⟨_, rfl⟩
  rw [← hb0]
  have HC0 := hide fun W => case_any c W
  rw [← hb0] at HC0
  clear hb0
  obtain ⟨b1, hb1⟩ : ∃ b, b = inR i 1 2 := ⟨_, rfl⟩
  rw [← hb1]
  have HC1 := hide fun W => within_any i 1 2 W
  rw [← hb1] at HC1
  clear hb1
  go_enter Tryz.func122, Tryz.ntmps122
  go_upto_region 1 with fail
  generalize hX1 : w.alloc _ = W1
  have hB1 : Below w.heap.size w W1 := hX1 ▸ (Below.refl _ _).alloc (Nat.le_refl _) _
  have HV := hide (boxedV w W1 [.int .i64 c, .int .i64 i, .bool s] 37 (by rw [← hX1]; rfl))
  have hc0 : W1.cell? ⟨w.heap.size, 0, none⟩ = some (.int .i64 c) := (unhide HV).cell rfl
  have hc1 : W1.cell? ⟨w.heap.size, 1, none⟩ = some (.int .i64 i) := (unhide HV).cell rfl
  have hc2 : W1.cell? ⟨w.heap.size, 2, none⟩ = some (.bool s) := (unhide HV).cell rfl
  have HB := hide hB1
  clear hX1 hB1
  go_wp2_with fail
  refine ((unhide HC0) W1).mono ?_; rintro x W2 ⟨rfl, rfl⟩
  cases b0
  case false =>
    go_wp2_with fail
    go_ret
    exact ⟨by simp, unhide HB⟩
  go_wp2_with fail
  refine ((unhide HC1) W2).mono ?_; rintro x W3 ⟨rfl, rfl⟩
  go_wp2_with fail
  go_ret
  exact ⟨by simp, unhide HB⟩
set_option maxRecDepth 100000 in
theorem interval_any (p q : Int) (w : World) : Calls Tryz.prog 234 #[.agg #[.int .i64 p, .int .i64 q]] w fun x w' => x = .returned (.bool (inR p 0 1048576 && inR q 0 1048576 && decide (p ≤ q))) ∧ Below w.heap.size w w' := by
  obtain ⟨b0, hb0⟩ : ∃ b, b = inR p 0 1048576 := ⟨_, rfl⟩
  rw [← hb0]
  have HC0 := hide fun W => day_any p W
  rw [← hb0] at HC0
  clear hb0
  obtain ⟨b1, hb1⟩ : ∃ b, b = inR q 0 1048576 := ⟨_, rfl⟩
  rw [← hb1]
  have HC1 := hide fun W => day_any q W
  rw [← hb1] at HC1
  clear hb1
  go_enter Tryz.func234, Tryz.ntmps234
  go_upto_region 1 with fail
  generalize hX1 : w.alloc _ = W1
  have hB1 : Below w.heap.size w W1 := hX1 ▸ (Below.refl _ _).alloc (Nat.le_refl _) _
  have HV := hide (boxedV w W1 [.int .i64 p, .int .i64 q] 33 (by rw [← hX1]; rfl))
  have hc0 : W1.cell? ⟨w.heap.size, 0, none⟩ = some (.int .i64 p) := (unhide HV).cell rfl
  have hc1 : W1.cell? ⟨w.heap.size, 1, none⟩ = some (.int .i64 q) := (unhide HV).cell rfl
  have HB := hide hB1
  clear hX1 hB1
  go_wp2_with fail
  refine ((unhide HC0) W1).mono ?_; rintro x W2 ⟨rfl, rfl⟩
  cases b0
  case false =>
    go_wp2_with fail
    go_ret
    exact ⟨by simp, unhide HB⟩
  go_wp2_with fail
  refine ((unhide HC1) W2).mono ?_; rintro x W3 ⟨rfl, rfl⟩
  cases b1
  case false =>
    go_wp2_with fail
    go_ret
    exact ⟨by simp, unhide HB⟩
  go_wp2_with fail
  go_ret
  exact ⟨by simp [bne_dec, beq_dec], unhide HB⟩
set_option maxRecDepth 100000 in
theorem move_any (p t : Int) (w : World) : Calls Tryz.prog 125 #[.agg #[.int .i64 p, .int .i64 t]] w fun x w' => x = .returned (.bool (inR p 0 8191 && (inR t 0 191 || decide (t = -1)))) ∧ Below w.heap.size w w' := by
  obtain ⟨b0, hb0⟩ : ∃ b, b = inR p 0 8191 := ⟨_, rfl⟩
  obtain ⟨b1, hb1⟩ : ∃ b, b = inR t 0 191 := ⟨_, rfl⟩
  rw [← hb0, ← hb1]
  have HC0 := hide fun W => player_any p W
  have HC1 := hide fun W => club_any t W
  rw [← hb0] at HC0
  rw [← hb1] at HC1
  clear hb0 hb1
  go_enter Tryz.func125, Tryz.ntmps125
  go_upto_region 1 with fail
  generalize hX1 : w.alloc _ = W1
  have hB1 : Below w.heap.size w W1 := hX1 ▸ (Below.refl _ _).alloc (Nat.le_refl _) _
  have HV := hide (boxedV w W1 [.int .i64 p, .int .i64 t] 39 (by rw [← hX1]; rfl))
  have hc0 : W1.cell? ⟨w.heap.size, 0, none⟩ = some (.int .i64 p) := (unhide HV).cell rfl
  have hc1 : W1.cell? ⟨w.heap.size, 1, none⟩ = some (.int .i64 t) := (unhide HV).cell rfl
  have HB := hide hB1
  clear hX1 hB1
  go_wp2_with fail
  refine ((unhide HC0) W1).mono ?_; rintro x W2 ⟨rfl, rfl⟩
  cases b0
  case false =>
    go_wp2_with fail
    go_ret
    exact ⟨by simp, unhide HB⟩
  go_wp2_with fail
  refine ((unhide HC1) W2).mono ?_; rintro x W3 ⟨rfl, rfl⟩
  cases b1
  case true =>
    go_wp2_with fail
    go_ret
    exact ⟨by simp, unhide HB⟩
  go_wp2_with fail
  go_ret
  exact ⟨by simp [beq_dec], unhide HB⟩
end Go.Proofs.YtdmaopfaeigelaaGreatDoor
namespace Go.Proofs.YtdmaopfaeigelaaGreatDoor
set_option linter.unusedSimpArgs false
set_option linter.unusedVariables false
open Go.RowKit

theorem incr_iff (l : List Int) : incr l = true ↔ ∀ i, 1 ≤ i → i < l.length → l.getD (i - 1) 0 < l.getD i 0 := by
  unfold incr
  rw [List.all_eq_true]
  constructor
  · intro h i h1 h2
    have := h i (List.mem_range.2 h2)
    rw [Bool.or_eq_true, decide_eq_true_eq, decide_eq_true_eq] at this
    rcases this with h | h
    · omega
    · exact h
  · intro h i hi
    rw [Bool.or_eq_true, decide_eq_true_eq, decide_eq_true_eq]
    by_cases h0 : i = 0
    · exact .inl h0
    · exact .inr (h i (by omega) (List.mem_range.1 hi))
theorem incr_no {l : List Int} {i : Nat} (h1 : 1 ≤ i) (h2 : i < l.length) (h : ¬ l.getD (i - 1) 0 < l.getD i 0) : incr l = false := by
  cases e : incr l
  · rfl
  · exact absurd ((incr_iff l).1 e i h1 h2) h
set_option maxRecDepth 100000 in
set_option maxHeartbeats 1000000 in
theorem incr_any (w : World) (A : Option Addr) (n c : Nat) (l : List Int) (hn : n = l.length) (hA : Sl w A l c) :
    Calls Tryz.prog 187 #[.slice A n c] w fun x w' => x = .returned (.bool (incr l)) ∧ Below w.heap.size w w' := by
  have HA := hide hA
  have HN : Hid (n = l.length ∧ n ≤ 1000) := ⟨hn, by have := hA.few; omega⟩
  have kc : (n : Int) ≤ (c : Int) := by have := hA.cap; omega
  clear hA hn
  go_enter Tryz.func187, Tryz.ntmps187
  go_wp2_with fail
  go_loopg [3] n (fun g y3 wx => ∃ k : Nat, y3 = .int .i64 (k : Int) ∧ g + k = n + 1 ∧ 1 ≤ k ∧ (∀ i, 1 ≤ i → i < k → i < l.length → l.getD (i - 1) 0 < l.getD i 0) ∧ Below w.heap.size w wx)
  case atStart => exact ⟨1, rfl, by omega, Nat.le_refl _, fun i h1 h2 => by omega, Below.refl _ _⟩
  case round =>
    obtain ⟨k, rfl, hk, hk1, hall, hb⟩ := hrel
    have HB := hide hb
    have HALL := hide hall
    by_cases hkn : k < n
    · obtain ⟨g, rfl⟩ : ∃ g, gk = g + 1 := ⟨gk - 1, by omega⟩
      have i1 : (k : Int) < (n : Int) := by omega
      have i0 : (0 : Int) ≤ (k : Int) := Int.natCast_nonneg _
      obtain ⟨j, hj⟩ : ∃ j, j = k - 1 := ⟨_, rfl⟩
      have wj : IntKind.i64.wrap ((k : Int) - 1) = (j : Int) := (IntWalk.i64_in _ (by have := unhide HN; omega)).trans (by omega)
      have wk : IntKind.i64.wrap ((k : Int) + 1) = ((k + 1 : Nat) : Int) := (IntWalk.i64_in _ (by have := unhide HN; omega)).trans (by omega)
      have j0 : (0 : Int) ≤ (j : Int) := Int.natCast_nonneg _
      have j1 : (j : Int) < (n : Int) := by omega
      obtain ⟨b, o, rfl, hc⟩ := ((unhide HA).it.keep hb).at_ (fun e => by have := unhide HN; rw [e] at this; simp at this; omega)
      have h1 := hc j (by have := unhide HN; omega)
      have h2 := hc k (by have := unhide HN; omega)
      obtain ⟨x, hx⟩ : ∃ x, x = l.getD j 0 := ⟨_, rfl⟩
      obtain ⟨y, hy⟩ : ∃ x, x = l.getD k 0 := ⟨_, rfl⟩
      rw [← hx] at h1
      rw [← hy] at h2
      have HX : Hid (x = l.getD j 0 ∧ y = l.getD k 0 ∧ j = k - 1 ∧ 1 ≤ k ∧ k < n ∧ g + 1 + k = n + 1) := ⟨hx, hy, hj, hk1, hkn, hk⟩
      have H1 := hide h1; have H2 := hide h2
      obtain ⟨W, hW⟩ : ∃ W, W = wr.drewN 1 := ⟨_, rfl⟩
      have HW : Hid (W = wr.drewN 1) := hW
      have hS : Below wr.heap.size wr W := below_named HW
      clear hc h1 h2 hx hy hj hk1 hkn hk hall hb hW
      go_upto_region 4 with fail
      refine held (S := Below wr.heap.size wr) W HW (by kernel_rfl) ?_
      refine wpAnyH_take (i := 0) (v := ?_) rfl (by kernel_rfl) (by kernel_rfl) (by kernel_rfl) (fun _ _ _ h => h) (Or.inl ⟨by kernel_rfl, ?_⟩) (by assumption) ?_
      rotate_left
      · intro Wt hSt
        go_simp
        try with_reducible rfl
      try simp only [List.getElem_toArray, List.getElem_cons_zero, List.getElem_cons_succ, Act.put, List.setIfInBounds_toArray, List.set_cons_zero, List.set_cons_succ]
      refine wpAnyH_take (i := 1) (v := ?_) rfl (by kernel_rfl) (by kernel_rfl) (by kernel_rfl) (fun _ _ _ h => h) (Or.inl ⟨by kernel_rfl, ?_⟩) (by assumption) ?_
      rotate_left
      · intro Wt hSt
        go_simp
        try with_reducible rfl
      try simp only [List.getElem_toArray, List.getElem_cons_zero, List.getElem_cons_succ, Act.put, List.setIfInBounds_toArray, List.set_cons_zero, List.set_cons_succ]
      refine wpAnyH_take (i := 2) (v := ?_) rfl (by kernel_rfl) (by kernel_rfl) (by kernel_rfl) (fun _ _ _ h => h) (Or.inl ⟨by kernel_rfl, ?_⟩) (by assumption) ?_
      rotate_left
      · intro Wt hSt
        go_simp
        try with_reducible rfl
      try simp only [List.getElem_toArray, List.getElem_cons_zero, List.getElem_cons_succ, Act.put, List.setIfInBounds_toArray, List.set_cons_zero, List.set_cons_succ]
      refine wpAnyH_take (i := 3) (v := ?_) rfl (by kernel_rfl) (by kernel_rfl) (by kernel_rfl) (fun _ _ _ h => h) (Or.inl ⟨by kernel_rfl, ?_⟩) (by assumption) ?_
      rotate_left
      · intro Wt hSt
        go_simp
        try with_reducible rfl
      try simp only [List.getElem_toArray, List.getElem_cons_zero, List.getElem_cons_succ, Act.put, List.setIfInBounds_toArray, List.set_cons_zero, List.set_cons_succ]
      refine wpAnyH_take (i := 4) (v := ?_) rfl (by kernel_rfl) (by kernel_rfl) (by kernel_rfl) (fun _ _ _ h => h) (Or.inl ⟨by kernel_rfl, ?_⟩) (by assumption) ?_
      rotate_left
      · intro Wt hSt
        have hct := (show Wt.cell? ⟨b, o + j, none⟩ = some (.int .i64 x) from (hSt.cell (p := ⟨b, o + j, none⟩) (lt_of_cell (unhide H1))).trans (unhide H1))
        go_simp
        try with_reducible rfl
      try simp only [List.getElem_toArray, List.getElem_cons_zero, List.getElem_cons_succ, Act.put, List.setIfInBounds_toArray, List.set_cons_zero, List.set_cons_succ]
      refine wpAnyH_take (i := 5) (v := ?_) rfl (by kernel_rfl) (by kernel_rfl) (by kernel_rfl) (fun _ _ _ h => h) (Or.inl ⟨by kernel_rfl, ?_⟩) (by assumption) ?_
      rotate_left
      · intro Wt hSt
        go_simp
        try with_reducible rfl
      try simp only [List.getElem_toArray, List.getElem_cons_zero, List.getElem_cons_succ, Act.put, List.setIfInBounds_toArray, List.set_cons_zero, List.set_cons_succ]
      refine wpAnyH_take (i := 6) (v := ?_) rfl (by kernel_rfl) (by kernel_rfl) (by kernel_rfl) (fun _ _ _ h => h) (Or.inl ⟨by kernel_rfl, ?_⟩) (by assumption) ?_
      rotate_left
      · intro Wt hSt
        go_simp
        try with_reducible rfl
      try simp only [List.getElem_toArray, List.getElem_cons_zero, List.getElem_cons_succ, Act.put, List.setIfInBounds_toArray, List.set_cons_zero, List.set_cons_succ]
      refine wpAnyH_take (i := 7) (v := ?_) rfl (by kernel_rfl) (by kernel_rfl) (by kernel_rfl) (fun _ _ _ h => h) (Or.inl ⟨by kernel_rfl, ?_⟩) (by assumption) ?_
      rotate_left
      · intro Wt hSt
        go_simp
        try with_reducible rfl
      try simp only [List.getElem_toArray, List.getElem_cons_zero, List.getElem_cons_succ, Act.put, List.setIfInBounds_toArray, List.set_cons_zero, List.set_cons_succ]
      refine wpAnyH_take (i := 8) (v := ?_) rfl (by kernel_rfl) (by kernel_rfl) (by kernel_rfl) (fun _ _ _ h => h) (Or.inl ⟨by kernel_rfl, ?_⟩) (by assumption) ?_
      rotate_left
      · intro Wt hSt
        have hct := (show Wt.cell? ⟨b, o + k, none⟩ = some (.int .i64 y) from (hSt.cell (p := ⟨b, o + k, none⟩) (lt_of_cell (unhide H2))).trans (unhide H2))
        go_simp
        try with_reducible rfl
      try simp only [List.getElem_toArray, List.getElem_cons_zero, List.getElem_cons_succ, Act.put, List.setIfInBounds_toArray, List.set_cons_zero, List.set_cons_succ]
      refine wpAnyH_take (i := 9) (v := ?_) rfl (by kernel_rfl) (by kernel_rfl) (by kernel_rfl) (fun _ _ _ h => h) (Or.inl ⟨by kernel_rfl, ?_⟩) (by assumption) ?_
      rotate_left
      · intro Wt hSt
        go_simp
        try with_reducible rfl
      try simp only [List.getElem_toArray, List.getElem_cons_zero, List.getElem_cons_succ, Act.put, List.setIfInBounds_toArray, List.set_cons_zero, List.set_cons_succ]
      refine wpAnyH_chainOf [] _ _ _ (by kernel_rfl) (by kernel_rfl) ?_
      refine wpChain_nil ?_
      have HS := hide (thenB (unhide HB) hS)
      clear hS
      by_cases hxy : y ≤ x
      · have e : incr l = false := incr_no (i := k) (by have := unhide HX; omega) (by have := unhide HX; have := unhide HN; omega) (by have h := unhide HX; rw [← h.2.2.1, ← h.1, ← h.2.1]; omega)
        have E := hide e
        clear e
        go_wp2_with fail
        go_ret
        exact ⟨by rw [unhide E]; rfl, unhide HS⟩
      · go_wp2_with fail
        go_roundg g
        case measure => omega
        case rel =>
          have h := unhide HX
          refine ⟨k + 1, rfl, by omega, by omega, fun i h1 h2 h3 => ?_, unhide HS⟩
          by_cases hi : i < k
          · exact (unhide HALL) i h1 hi h3
          · obtain rfl : i = k := by omega
            rw [← h.2.2.1, ← h.1, ← h.2.1]
            omega
    · have i1 : ¬ (k : Int) < (n : Int) := by omega
      have e : incr l = true := (incr_iff l).2 fun i h1 h2 => hall i h1 (by have := unhide HN; omega) h2
      have E := hide e
      clear e hall hb hk hkn
      go_wp2_with fail
      go_ret
      exact ⟨by rw [unhide E]; rfl, unhide HB⟩
set_option maxRecDepth 100000 in
set_option maxHeartbeats 1000000 in
theorem every_any (w : World) (A : Option Addr) (n c : Nat) (l : List Int) (hn : n = l.length) (hA : Sl w A l c) (F : FuncId) (p : Int → Bool) (hrun : ∀ (args : Array Value) (w : World), (callFunc F args).run Tryz.prog w = .ok (.enter F args) w) (hF : ∀ (x : Int) (W : World), Calls Tryz.prog F #[.int .i64 x] W fun e w' => e = .returned (.bool (p x)) ∧ w' = W) :
    Calls Tryz.prog 217 #[.slice A n c, .func (.func F) #[] #[]] w fun x w' => x = .returned (.bool (l.all p)) ∧ w' = w := by
  have HA := hide hA
  have HF := hide hF; have HRUN := hide hrun
  have HN : Hid (n = l.length ∧ n ≤ 1000) := ⟨hn, by have := hA.few; omega⟩
  have kc : (n : Int) ≤ (c : Int) := by have := hA.cap; omega
  clear hA hn hF hrun
  go_enter Tryz.func217, Tryz.ntmps217
  go_wp2_with fail
  go_loopg [9] n (fun g y9 wx => ∃ k : Nat, y9 = .int .i64 (k : Int) ∧ g + k = n ∧ (∀ i, i < k → p (l.getD i 0) = true) ∧ wx = w)
  case atStart => exact ⟨0, rfl, by omega, fun i h1 => by omega, rfl⟩
  case round =>
    obtain ⟨k, rfl, hk, hall, rfl⟩ := hrel
    have HALL := hide hall
    by_cases hkn : k < n
    · obtain ⟨g, rfl⟩ : ∃ g, gk = g + 1 := ⟨gk - 1, by omega⟩
      have i1 : (k : Int) < (n : Int) := by omega
      have i0 : (0 : Int) ≤ (k : Int) := Int.natCast_nonneg _
      have wk : IntKind.i64.wrap ((k : Int) + 1) = ((k + 1 : Nat) : Int) := (IntWalk.i64_in _ (by have := unhide HN; omega)).trans (by omega)
      obtain ⟨b, o, rfl, hc⟩ := (unhide HA).it.at_ (fun e => by have := unhide HN; rw [e] at this; simp at this; omega)
      have h1 := hc k (by have := unhide HN; omega)
      obtain ⟨x, hx⟩ : ∃ x, x = l.getD k 0 := ⟨_, rfl⟩
      rw [← hx] at h1
      have HX : Hid (x = l.getD k 0 ∧ k < n ∧ g + 1 + k = n) := ⟨hx, hkn, hk⟩
      obtain ⟨z, hz⟩ : ∃ z, z = p x := ⟨_, rfl⟩
      have hcal := (unhide HF) x wr
      rw [← hz] at hcal
      have HC := hide hcal
      have HZ := hide hz
      clear hc hx hkn hk hall hcal hz
      go_wp2_with fail
      rw [(unhide HRUN) _ wr, Oper.upon_enter]
      refine (unhide HC).mono ?_; rintro e W2 ⟨rfl, rfl⟩
      dsimp only
      rename_i hK
      refine hK _ _ ?_
      clear hK
      cases z
      case false =>
        refine wpList_plain rfl fun Kt hKt => ?_
        go_simp
        refine hKt _ _ ?_
        clear hKt Kt
        try simp only [List.getElem_toArray, List.getElem_cons_zero, List.getElem_cons_succ, Act.put, List.setIfInBounds_toArray, List.set_cons_zero, List.set_cons_succ]
        have e : l.all p = false := by
          have h := unhide HX
          rw [List.all_eq_false]
          refine ⟨l.getD k 0, ?_, ?_⟩
          · rw [List.getD_eq_getElem?_getD, List.getElem?_eq_getElem (by have := unhide HN; omega)]
            exact List.getElem_mem _
          · rw [← h.1, ← unhide HZ]; decide
        have E := hide e
        clear e
        go_wp2_with fail
        go_ret
        exact ⟨by rw [unhide E]; rfl, rfl⟩
      refine wpList_plain rfl fun Kt hKt => ?_
      go_simp
      refine hKt _ _ ?_
      clear hKt Kt
      try simp only [List.getElem_toArray, List.getElem_cons_zero, List.getElem_cons_succ, Act.put, List.setIfInBounds_toArray, List.set_cons_zero, List.set_cons_succ]
      go_wp2_with fail
      go_roundg g
      case measure => omega
      case rel =>
        have h := unhide HX
        refine ⟨k + 1, rfl, by omega, fun i h1 => ?_, rfl⟩
        by_cases hi : i < k
        · exact (unhide HALL) i hi
        · obtain rfl : i = k := by omega
          rw [← h.1, ← unhide HZ]
    · have i1 : ¬ (k : Int) < (n : Int) := by omega
      have e : l.all p = true := by
        rw [List.all_eq_true]
        intro x hx
        obtain ⟨i, hi⟩ := List.getElem?_of_mem hx
        have hlt := (List.getElem?_eq_some_iff.1 hi).1
        have := hall i (by have := unhide HN; omega)
        rwa [List.getD_eq_getElem?_getD, hi] at this
      have E := hide e
      clear e hall hk hkn
      go_wp2_with fail
      go_ret
      exact ⟨by rw [unhide E]; rfl, rfl⟩
theorem run_club (args : Array Value) (w : World) : (callFunc 73 args).run Tryz.prog w = .ok (.enter 73 args) w := by
  simp [callFunc, Tryz.func73, Tryz.f73]
theorem run_player (args : Array Value) (w : World) : (callFunc 197 args).run Tryz.prog w = .ok (.enter 197 args) w := by
  simp [callFunc, Tryz.func197, Tryz.f197]
def okClubs (l : List Int) : Bool := inR l.length 2 24 && l.all fun x => inR x 0 191
def okSquad (l : List Int) : Bool := decide (l.length ≤ 40) && (l.all fun x => inR x 0 8191) && incr l
set_option maxRecDepth 100000 in
theorem clubs_any (w : World) (A : Option Addr) (n c : Nat) (l : List Int) (hn : n = l.length) (hA : Sl w A l c) :
    Calls Tryz.prog 186 #[.slice A n c] w fun x w' => x = .returned (.bool (okClubs l)) ∧ w' = w := by
  have hev := every_any w A n c l hn hA 73 (fun x => inR x 0 191) run_club (fun x W => club_any x W)
  have hwi := within_any (n : Int) 2 24 w
  unfold okClubs
  rw [← hn]
  obtain ⟨b0, hb0⟩ : ∃ b, b = inR (n : Int) 2 24 := ⟨_, rfl⟩
  obtain ⟨b1, hb1⟩ : ∃ b, b = l.all fun x => inR x 0 191 := ⟨_, rfl⟩
  rw [← hb0] at hwi ⊢
  rw [← hb1] at hev ⊢
  have HE := hide hev; have HW := hide hwi
  clear hev hwi hb0 hb1 hn hA
  go_enter Tryz.func186, Tryz.ntmps186
  go_wp2_with fail
  refine (unhide HW).mono ?_; rintro x W2 ⟨rfl, rfl⟩
  cases b0
  case false =>
    go_wp2_with fail
    go_ret
    exact ⟨by simp, rfl⟩
  go_wp2_with fail
  refine (unhide HE).mono ?_; rintro x W3 ⟨rfl, rfl⟩
  go_wp2_with fail
  go_ret
  exact ⟨by simp, rfl⟩
set_option maxRecDepth 100000 in
theorem squad_any (w : World) (A : Option Addr) (n c : Nat) (l : List Int) (hn : n = l.length) (hA : Sl w A l c) :
    Calls Tryz.prog 192 #[.slice A n c] w fun x w' => x = .returned (.bool (okSquad l)) ∧ Below w.heap.size w w' := by
  have hev := every_any w A n c l hn hA 197 (fun x => inR x 0 8191) run_player (fun x W => player_any x W)
  have hin := incr_any w A n c l hn hA
  unfold okSquad
  rw [← hn]
  obtain ⟨b1, hb1⟩ : ∃ b, b = l.all fun x => inR x 0 8191 := ⟨_, rfl⟩
  obtain ⟨b2, hb2⟩ : ∃ b, b = incr l := ⟨_, rfl⟩
  rw [← hb1] at hev ⊢
  rw [← hb2] at hin ⊢
  have HE := hide hev; have HI := hide hin
  clear hev hin hb1 hb2 hn hA
  by_cases h0 : n ≤ 40
  · have i0 : (n : Int) ≤ 40 := by omega
    rw [decide_eq_true h0]
    go_enter Tryz.func192, Tryz.ntmps192
    go_wp2_with fail
    refine (unhide HE).mono ?_; rintro x W2 ⟨rfl, rfl⟩
    cases b1
    case false =>
      go_wp2_with fail
      go_ret
      exact ⟨by simp, Below.refl _ _⟩
    go_wp2_with fail
    refine (unhide HI).mono ?_; rintro x W3 ⟨rfl, hB⟩
    have HB := hide hB
    clear hB
    go_wp2_with fail
    go_ret
    exact ⟨by simp, unhide HB⟩
  · have i0 : ¬ (n : Int) ≤ 40 := by omega
    rw [decide_eq_false h0]
    go_enter Tryz.func192, Tryz.ntmps192
    go_wp2_with fail
    go_ret
    exact ⟨by simp, Below.refl _ _⟩
end Go.Proofs.YtdmaopfaeigelaaGreatDoor
namespace Go.Proofs.YtdmaopfaeigelaaGreatDoor
set_option linter.unusedSimpArgs false
set_option linter.unusedVariables false
open Go.RowKit

theorem letter_any (c : Nat) (w : World) : Calls Tryz.prog 218 #[.int .u8 (c : Int)] w fun x w' => x = .returned (.bool (isLet c)) ∧ w' = w := by
  unfold isLet
  by_cases h1 : 97 ≤ c
  · have i1 : (97 : Int) ≤ (c : Int) := by omega
    by_cases h2 : c ≤ 122
    · have i2 : (c : Int) ≤ 122 := by omega
      rw [decide_eq_true h1, decide_eq_true h2]
      clear h1 h2
      go_enter Tryz.func218, Tryz.ntmps218
      go_wp2_with fail
      go_ret
      exact ⟨rfl, rfl⟩
    · have i2 : ¬ (c : Int) ≤ 122 := by omega
      rw [decide_eq_true h1, decide_eq_false h2]
      clear h1 h2
      go_enter Tryz.func218, Tryz.ntmps218
      go_wp2_with fail
      go_ret
      exact ⟨rfl, rfl⟩
  · have i1 : ¬ (97 : Int) ≤ (c : Int) := by omega
    rw [decide_eq_false h1]
    clear h1
    go_enter Tryz.func218, Tryz.ntmps218
    go_wp2_with fail
    go_ret
    exact ⟨rfl, rfl⟩
theorem digit_any (c : Nat) (w : World) : Calls Tryz.prog 219 #[.int .u8 (c : Int)] w fun x w' => x = .returned (.bool (isDig c)) ∧ w' = w := by
  unfold isDig
  by_cases h1 : 48 ≤ c
  · have i1 : (48 : Int) ≤ (c : Int) := by omega
    by_cases h2 : c ≤ 57
    · have i2 : (c : Int) ≤ 57 := by omega
      rw [decide_eq_true h1, decide_eq_true h2]
      clear h1 h2
      go_enter Tryz.func219, Tryz.ntmps219
      go_wp2_with fail
      go_ret
      exact ⟨rfl, rfl⟩
    · have i2 : ¬ (c : Int) ≤ 57 := by omega
      rw [decide_eq_true h1, decide_eq_false h2]
      clear h1 h2
      go_enter Tryz.func219, Tryz.ntmps219
      go_wp2_with fail
      go_ret
      exact ⟨rfl, rfl⟩
  · have i1 : ¬ (48 : Int) ≤ (c : Int) := by omega
    rw [decide_eq_false h1]
    clear h1
    go_enter Tryz.func219, Tryz.ntmps219
    go_wp2_with fail
    go_ret
    exact ⟨rfl, rfl⟩
/-- the byte at a place -/
def byteOf (s : ByteArray) (i : Nat) : Nat := (s.data.toList.getD i 0).toNat
theorem byteOf_get (s : ByteArray) (k : Nat) (h : k < s.size) : s[k].toNat = byteOf s k := by
  unfold byteOf
  rw [List.getD_eq_getElem?_getD, List.getElem?_eq_getElem (by simpa using h)]
  rfl
def okCh (c : Nat) : Bool := isLet c || isDig c || decide (c = 95)
def okName (s : ByteArray) : Bool := inR s.size 1 24 && isLet (byteOf s 0) && (List.range s.size).all fun i => decide (i = 0) || okCh (byteOf s i)
set_option maxRecDepth 100000 in
set_option maxHeartbeats 1000000 in
theorem name_any (s : ByteArray) (w : World) : Calls Tryz.prog 189 #[.string s] w fun x w' => x = .returned (.bool (okName s)) ∧ w' = w := by
  have hwi := within_any (s.size : Int) 1 24 w
  obtain ⟨R, hR⟩ : ∃ R, R = okName s := ⟨_, rfl⟩
  obtain ⟨b0, hb0⟩ : ∃ b, b = inR (s.size : Int) 1 24 := ⟨_, rfl⟩
  rw [← hb0] at hwi
  have HR := hide hR; have HW := hide hwi; have HB := hide hb0
  rw [← hR]
  clear hR hwi hb0
  cases b0
  case false =>
    have e : R = false := by rw [unhide HR]; unfold okName; rw [← unhide HB]; rfl
    subst e
    go_enter Tryz.func189, Tryz.ntmps189
    go_wp2_with fail
    refine (unhide HW).mono ?_; rintro x W2 ⟨rfl, rfl⟩
    go_wp2_with fail
    go_ret
    exact ⟨rfl, rfl⟩
  have hsz : 1 ≤ s.size ∧ s.size ≤ 24 := by
    have h := unhide HB
    unfold inR at h
    have h2 := (Bool.and_eq_true _ _).mp h.symm
    rw [decide_eq_true_eq, decide_eq_true_eq] at h2
    omega
  have hp : 0 < s.size := hsz.1
  have HS := hide hsz
  have hl0 := letter_any (byteOf s 0) w
  rw [← byteOf_get s 0 hp] at hl0
  obtain ⟨b1, hb1⟩ : ∃ b, b = isLet (byteOf s 0) := ⟨_, rfl⟩
  rw [byteOf_get s 0 hp, ← hb1, ← byteOf_get s 0 hp] at hl0
  have HL0 := hide hl0; have HB1 := hide hb1
  clear hl0 hb1 hsz
  cases b1
  case false =>
    have e : R = false := by rw [unhide HR]; unfold okName; rw [← unhide HB, ← unhide HB1]; rfl
    subst e
    go_enter Tryz.func189, Tryz.ntmps189
    go_wp2_with fail
    refine (unhide HW).mono ?_; rintro x W2 ⟨rfl, rfl⟩
    go_wp2_with fail
    refine (unhide HL0).mono ?_; rintro x W3 ⟨rfl, rfl⟩
    go_wp2_with fail
    go_ret
    exact ⟨rfl, rfl⟩
  go_enter Tryz.func189, Tryz.ntmps189
  go_wp2_with fail
  refine (unhide HW).mono ?_; rintro x W2 ⟨rfl, rfl⟩
  go_wp2_with fail
  refine (unhide HL0).mono ?_; rintro x W3 ⟨rfl, rfl⟩
  go_wp2_with fail
  go_loopg [3] s.size (fun g y3 wx => ∃ k : Nat, y3 = .int .i64 (k : Int) ∧ g + k = s.size + 1 ∧ 1 ≤ k ∧ (∀ i, 1 ≤ i → i < k → okCh (byteOf s i) = true) ∧ wx = W3)
  case atStart => exact ⟨1, rfl, by omega, Nat.le_refl _, fun i h1 h2 => by omega, rfl⟩
  case round =>
    obtain ⟨k, rfl, hk, hk1, hall, rfl⟩ := hrel
    have HALL := hide hall
    by_cases hkn : k < s.size
    · obtain ⟨g, rfl⟩ : ∃ g, gk = g + 1 := ⟨gk - 1, by omega⟩
      have i1 : (k : Int) < (s.size : Int) := by omega
      have i0 : (0 : Int) ≤ (k : Int) := Int.natCast_nonneg _
      have wk : IntKind.i64.wrap ((k : Int) + 1) = ((k + 1 : Nat) : Int) := (IntWalk.i64_in _ (by have := unhide HS; omega)).trans (by omega)
      obtain ⟨c, hc⟩ : ∃ c, c = byteOf s k := ⟨_, rfl⟩
      have hl := letter_any c wr
      have hd := digit_any c wr
      have hsk : s[k].toNat = c := by rw [hc]; exact byteOf_get s k hkn
      rw [← hsk] at hl hd
      obtain ⟨b1, hb1⟩ : ∃ b, b = isLet c := ⟨_, rfl⟩
      obtain ⟨b2, hb2⟩ : ∃ b, b = isDig c := ⟨_, rfl⟩
      rw [hsk, ← hb1, ← hsk] at hl
      rw [hsk, ← hb2, ← hsk] at hd
      have HL := hide hl; have HDD := hide hd
      have HX : Hid (c = byteOf s k ∧ b1 = isLet c ∧ b2 = isDig c ∧ k < s.size ∧ 1 ≤ k ∧ g + 1 + k = s.size + 1 ∧ s[k].toNat = c) := ⟨hc, hb1, hb2, hkn, hk1, hk, hsk⟩
      have hgo : okCh c = true → ∀ i, 1 ≤ i → i < k + 1 → okCh (byteOf s i) = true := fun h i h1 h2 => by
        by_cases hi : i < k
        · exact (unhide HALL) i h1 hi
        · obtain rfl : i = k := by omega
          rw [← hc]; exact h
      have HGO := hide hgo
      clear hl hd hc hb1 hb2 hk1 hk hall hgo
      cases b1
      case true =>
        clear hsk
        go_wp2_with fail
        refine (unhide HL).mono ?_; rintro x W4 ⟨rfl, rfl⟩
        go_wp2_with fail
        go_roundg g
        case measure => omega
        case rel =>
          have h := unhide HX
          exact ⟨k + 1, rfl, by omega, by omega, (unhide HGO) (by unfold okCh; rw [← h.2.1]; rfl), rfl⟩
      cases b2
      case true =>
        clear hsk
        go_wp2_with fail
        refine (unhide HL).mono ?_; rintro x W4 ⟨rfl, rfl⟩
        go_wp2_with fail
        refine (unhide HDD).mono ?_; rintro x W5 ⟨rfl, rfl⟩
        go_wp2_with fail
        go_roundg g
        case measure => omega
        case rel =>
          have h := unhide HX
          exact ⟨k + 1, rfl, by omega, by omega, (unhide HGO) (by unfold okCh; rw [← h.2.1, ← h.2.2.1]; rfl), rfl⟩
      by_cases h95 : c = 95
      · have h95' : ((s[k].toNat : Int) != 95) = false := by rw [hsk, h95]; rfl
        clear hsk
        go_wp2_with fail
        refine (unhide HL).mono ?_; rintro x W4 ⟨rfl, rfl⟩
        go_wp2_with fail
        refine (unhide HDD).mono ?_; rintro x W5 ⟨rfl, rfl⟩
        go_wp2_with fail
        go_roundg g
        case measure => omega
        case rel =>
          have h := unhide HX
          exact ⟨k + 1, rfl, by omega, by omega, (unhide HGO) (by unfold okCh; rw [decide_eq_true h95]; simp), rfl⟩
      · have h95' : ((s[k].toNat : Int) != 95) = true := by
          rw [hsk, bne_iff_ne]; omega
        have e : R = false := by
          have h := unhide HX
          have hc : okCh c = false := by unfold okCh; rw [← h.2.1, ← h.2.2.1, decide_eq_false h95]; rfl
          rw [unhide HR]
          unfold okName
          rw [Bool.and_eq_false_iff]
          right
          rw [List.all_eq_false]
          refine ⟨k, List.mem_range.2 h.2.2.2.1, ?_⟩
          rw [← h.1, hc, decide_eq_false (by omega)]
          decide
        subst e
        clear hsk
        go_wp2_with fail
        refine (unhide HL).mono ?_; rintro x W4 ⟨rfl, rfl⟩
        go_wp2_with fail
        refine (unhide HDD).mono ?_; rintro x W5 ⟨rfl, rfl⟩
        go_wp2_with fail
        go_ret
        exact ⟨rfl, rfl⟩
    · have i1 : ¬ (k : Int) < (s.size : Int) := by omega
      have e : R = true := by
        rw [unhide HR]
        unfold okName
        rw [← unhide HB, ← unhide HB1, Bool.true_and, Bool.true_and, List.all_eq_true]
        intro i hi
        rw [Bool.or_eq_true, decide_eq_true_eq]
        by_cases h0 : i = 0
        · exact .inl h0
        · exact .inr (hall i (by omega) (by have := List.mem_range.1 hi; omega))
      subst e
      clear hall hk hkn
      go_wp2_with fail
      go_ret
      exact ⟨rfl, rfl⟩
end Go.Proofs.YtdmaopfaeigelaaGreatDoor
namespace Go.Proofs.YtdmaopfaeigelaaGreatDoor
set_option linter.unusedSimpArgs false
set_option linter.unusedVariables false
open Go.RowKit

def okEnt (e : En) : Bool := inR e.s 0 63 && inR e.c 0 15 && okClubs e.clubs && incr e.clubs && (if e.c < 8 then okName e.rules else e.rules.toList.isEmpty)
set_option maxRecDepth 100000 in
set_option maxHeartbeats 1000000 in
theorem entrants_any (e : En) (w : World) (A : Option Addr) (n k : Nat) (hn : n = e.clubs.length) (hA : Sl w A e.clubs k) :
    Calls Tryz.prog 110 #[.agg #[.int .i64 e.s, .int .i64 e.c, .slice A n k, .string e.rules]] w fun x w' => x = .returned (.bool (okEnt e)) ∧ Below w.heap.size w w' := by
  obtain ⟨s, c, l, r⟩ := e
  dsimp only at hn hA ⊢
  obtain ⟨R, hR⟩ : ∃ R, R = okEnt ⟨s, c, l, r⟩ := ⟨_, rfl⟩
  obtain ⟨b0, hb0⟩ : ∃ b, b = inR s 0 63 := ⟨_, rfl⟩
  obtain ⟨b1, hb1⟩ : ∃ b, b = inR c 0 15 := ⟨_, rfl⟩
  obtain ⟨b2, hb2⟩ : ∃ b, b = okClubs l := ⟨_, rfl⟩
  obtain ⟨b3, hb3⟩ : ∃ b, b = incr l := ⟨_, rfl⟩
  obtain ⟨b4, hb4⟩ : ∃ b, b = okName r := ⟨_, rfl⟩
  have HC0 := hide fun W => season_any s W
  have HC1 := hide fun W => comp_any c W
  have HC4 := hide fun W => name_any r W
  have HA := hide hA; have HN := hide hn
  rw [← hb0] at HC0
  rw [← hb1] at HC1
  rw [← hb4] at HC4
  have HR : Hid (R = (b0 && b1 && b2 && b3 && (if c < 8 then b4 else r.toList.isEmpty))) := by
    have : R = (b0 && b1 && b2 && b3 && (if c < 8 then b4 else r.toList.isEmpty)) := by
      rw [hR, hb0, hb1, hb2, hb3, hb4]; rfl
    exact this
  rw [← hR]
  have H2 := hide hb2; have H3 := hide hb3
  clear hR hb0 hb1 hb2 hb3 hb4 hA hn
  go_enter Tryz.func110, Tryz.ntmps110
  go_upto_region 1 with fail
  generalize hX1 : w.alloc _ = W1
  have hB1 : Below w.heap.size w W1 := hX1 ▸ (Below.refl _ _).alloc (Nat.le_refl _) _
  have HV := hide (boxedV w W1 [.int .i64 s, .int .i64 c, .slice A n k, .string r] 24 (by rw [← hX1]; rfl))
  have hc0 : W1.cell? ⟨w.heap.size, 0, none⟩ = some (.int .i64 s) := (unhide HV).cell rfl
  have hc1 : W1.cell? ⟨w.heap.size, 1, none⟩ = some (.int .i64 c) := (unhide HV).cell rfl
  have hc2 : W1.cell? ⟨w.heap.size, 2, none⟩ = some (.slice A n k) := (unhide HV).cell rfl
  have hc3 : W1.cell? ⟨w.heap.size, 3, none⟩ = some (.string r) := (unhide HV).cell rfl
  have HB := hide hB1
  clear hX1 hB1
  go_wp2_with fail
  refine ((unhide HC0) W1).mono ?_; rintro x W2 ⟨rfl, rfl⟩
  cases b0
  case false =>
    go_wp2_with fail
    go_ret
    exact ⟨by rw [unhide HR]; rfl, unhide HB⟩
  go_wp2_with fail
  refine ((unhide HC1) W2).mono ?_; rintro x W3 ⟨rfl, rfl⟩
  cases b1
  case false =>
    go_wp2_with fail
    go_ret
    exact ⟨by rw [unhide HR]; rfl, unhide HB⟩
  have HC2 := hide (clubs_any W3 A n k l (unhide HN) ((unhide HA).keep (unhide HB)))
  rw [← unhide H2] at HC2
  go_wp2_with fail
  refine (unhide HC2).mono ?_; rintro x W4 ⟨rfl, rfl⟩
  cases b2
  case false =>
    go_wp2_with fail
    go_ret
    exact ⟨by rw [unhide HR]; rfl, unhide HB⟩
  have HC3 := hide (incr_any W4 A n k l (unhide HN) ((unhide HA).keep (unhide HB)))
  rw [← unhide H3] at HC3
  go_wp2_with fail
  refine (unhide HC3).mono ?_; rintro x W5 ⟨rfl, hG⟩
  have hc1' : W5.cell? ⟨w.heap.size, 1, none⟩ = some (.int .i64 c) := (hG.cell (p := ⟨w.heap.size, 1, none⟩) (lt_of_cell hc1)).trans hc1
  have hc3' : W5.cell? ⟨w.heap.size, 3, none⟩ = some (.string r) := (hG.cell (p := ⟨w.heap.size, 3, none⟩) (lt_of_cell hc3)).trans hc3
  have HB5 := hide (thenB (unhide HB) hG)
  clear hc0 hc1 hc2 hc3 hG
  cases b3
  case false =>
    go_wp2_with fail
    go_ret
    exact ⟨by rw [unhide HR]; rfl, unhide HB5⟩
  by_cases h8 : c < 8
  · have e : R = b4 := by rw [unhide HR, if_pos h8]; rfl
    subst e
    have hl := decide_eq_true h8
    clear HR
    have HL := hide (league_any c W5)
    rw [hl] at HL
    clear hl h8
    go_wp2_with fail
    refine (unhide HL).mono ?_; rintro x W6 ⟨rfl, rfl⟩
    go_wp2_with fail
    refine ((unhide HC4) W6).mono ?_; rintro x W7 ⟨rfl, rfl⟩
    go_wp2_with fail
    go_ret
    exact ⟨rfl, unhide HB5⟩
  · have e : R = r.toList.isEmpty := by rw [unhide HR, if_neg h8]; rfl
    subst e
    have hl := decide_eq_false h8
    clear HR
    have HL := hide (league_any c W5)
    rw [hl] at HL
    clear hl h8
    go_wp2_with fail
    refine (unhide HL).mono ?_; rintro x W6 ⟨rfl, rfl⟩
    go_wp2_with fail
    go_ret
    exact ⟨by simp [beq_dec], unhide HB5⟩
end Go.Proofs.YtdmaopfaeigelaaGreatDoor
