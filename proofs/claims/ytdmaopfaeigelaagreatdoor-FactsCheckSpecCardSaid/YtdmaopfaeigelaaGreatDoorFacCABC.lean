/- Contracts over the program of facts: the reference's ranges and games. Contracts over the program of facts: the reference's lists. Contracts over the program of facts: the reference's names, entrants, lots and sheets. -/
import Derived.Test.YtdmaopfaeigelaaGreatDoorFacT
import Derived.Test.YtdmaopfaeigelaaGreatDoorFacP
import Derived.Test.YtdmaopfaeigelaaGreatDoorFacM
namespace Go.Proofs.YtdmaopfaeigelaaGreatDoor
set_option linter.unusedSimpArgs false
set_option linter.unusedVariables false
set_option maxRecDepth 100000
open Go.RowKit

theorem rwithin_any (n a b : Int) (w : World) : Calls Tryz.prog 65 #[.int .i64 n, .int .i64 a, .int .i64 b] w fun x w' => x = .returned (.bool (inR n a b)) ∧ w' = w := by
  unfold inR
  by_cases h1 : a ≤ n
  · by_cases h2 : n ≤ b
    · rw [decide_eq_true h1, decide_eq_true h2]
      go_enter Tryz.func65, Tryz.ntmps65
      go_wp2_with fail
      go_ret
      exact ⟨rfl, rfl⟩
    · rw [decide_eq_true h1, decide_eq_false h2]
      go_enter Tryz.func65, Tryz.ntmps65
      go_wp2_with fail
      go_ret
      exact ⟨rfl, rfl⟩
  · rw [decide_eq_false h1]
    go_enter Tryz.func65, Tryz.ntmps65
    go_wp2_with fail
    go_ret
    exact ⟨rfl, rfl⟩
theorem rseason_any (n : Int) (w : World) : Calls Tryz.prog 74 #[.int .i64 n] w fun x w' => x = .returned (.bool (inR n 0 63)) ∧ w' = w := by
  go_enter Tryz.func74, Tryz.ntmps74
  go_wp2_with fail
  refine (rwithin_any n 0 63 w).mono ?_; rintro x W2 ⟨rfl, rfl⟩
  go_wp2_with fail
  go_ret
  exact ⟨rfl, rfl⟩
theorem rcomp_any (n : Int) (w : World) : Calls Tryz.prog 75 #[.int .i64 n] w fun x w' => x = .returned (.bool (inR n 0 15)) ∧ w' = w := by
  go_enter Tryz.func75, Tryz.ntmps75
  go_wp2_with fail
  refine (rwithin_any n 0 15 w).mono ?_; rintro x W2 ⟨rfl, rfl⟩
  go_wp2_with fail
  go_ret
  exact ⟨rfl, rfl⟩
theorem rclub_any (n : Int) (w : World) : Calls Tryz.prog 76 #[.int .i64 n] w fun x w' => x = .returned (.bool (inR n 0 191)) ∧ w' = w := by
  go_enter Tryz.func76, Tryz.ntmps76
  go_wp2_with fail
  refine (rwithin_any n 0 191 w).mono ?_; rintro x W2 ⟨rfl, rfl⟩
  go_wp2_with fail
  go_ret
  exact ⟨rfl, rfl⟩
theorem rplayer_any (n : Int) (w : World) : Calls Tryz.prog 69 #[.int .i64 n] w fun x w' => x = .returned (.bool (inR n 0 8191)) ∧ w' = w := by
  go_enter Tryz.func69, Tryz.ntmps69
  go_wp2_with fail
  refine (rwithin_any n 0 8191 w).mono ?_; rintro x W2 ⟨rfl, rfl⟩
  go_wp2_with fail
  go_ret
  exact ⟨rfl, rfl⟩
theorem rday_any (n : Int) (w : World) : Calls Tryz.prog 34 #[.int .i64 n] w fun x w' => x = .returned (.bool (inR n 0 1048576)) ∧ w' = w := by
  go_enter Tryz.func34, Tryz.ntmps34
  go_wp2_with fail
  refine (rwithin_any n 0 1048576 w).mono ?_; rintro x W2 ⟨rfl, rfl⟩
  go_wp2_with fail
  go_ret
  exact ⟨rfl, rfl⟩
theorem rgame_any (g : Gm) (w : World) : Calls Tryz.prog 38 #[.agg (gC g).toArray] w fun x w' => x = .returned (.bool (okGame g)) ∧ Below w.heap.size w w' := by
  obtain ⟨s, c, h, a⟩ := g
  unfold okGame gC
  obtain ⟨b0, hb0⟩ : ∃ b, b = inR s 0 63 := ⟨_, rfl⟩
  rw [← hb0]
  have HC0 := hide fun W => rseason_any s W
  rw [← hb0] at HC0
  clear hb0
  obtain ⟨b1, hb1⟩ : ∃ b, b = inR c 0 15 := ⟨_, rfl⟩
  rw [← hb1]
  have HC1 := hide fun W => rcomp_any c W
  rw [← hb1] at HC1
  clear hb1
  obtain ⟨b2, hb2⟩ : ∃ b, b = inR h 0 191 := ⟨_, rfl⟩
  rw [← hb2]
  have HC2 := hide fun W => rclub_any h W
  rw [← hb2] at HC2
  clear hb2
  obtain ⟨b3, hb3⟩ : ∃ b, b = inR a 0 191 := ⟨_, rfl⟩
  rw [← hb3]
  have HC3 := hide fun W => rclub_any a W
  rw [← hb3] at HC3
  clear hb3
  go_enter Tryz.func38, Tryz.ntmps38
  go_upto_region 1 with fail
  generalize hX1 : w.alloc _ = W1
  have hB1 : Below w.heap.size w W1 := hX1 ▸ (Below.refl _ _).alloc (Nat.le_refl _) _
  have HV := hide (boxedV w W1 [.int .i64 s, .int .i64 c, .int .i64 h, .int .i64 a] 26 (by rw [← hX1]; rfl))
  have hc0 : W1.cell? ⟨w.heap.size, 0, none⟩ = some (.int .i64 s) := (unhide HV).cell rfl
  have hc1 : W1.cell? ⟨w.heap.size, 1, none⟩ = some (.int .i64 c) := (unhide HV).cell rfl
  have hc2 : W1.cell? ⟨w.heap.size, 2, none⟩ = some (.int .i64 h) := (unhide HV).cell rfl
  have hc3 : W1.cell? ⟨w.heap.size, 3, none⟩ = some (.int .i64 a) := (unhide HV).cell rfl
  have HB := hide hB1
  clear hX1 hB1
  go_wp2_with fail
  refine ((unhide HC0) W1).mono ?_; rintro x W2 ⟨rfl, rfl⟩
  cases b0
  case false =>
    go_wp2_with fail
    go_ret
    exact ⟨by simp, unhide HB⟩
  go_wp2_with fail
  refine ((unhide HC1) W2).mono ?_; rintro x W3 ⟨rfl, rfl⟩
  cases b1
  case false =>
    go_wp2_with fail
    go_ret
    exact ⟨by simp, unhide HB⟩
  go_wp2_with fail
  refine ((unhide HC2) W3).mono ?_; rintro x W4 ⟨rfl, rfl⟩
  cases b2
  case false =>
    go_wp2_with fail
    go_ret
    exact ⟨by simp, unhide HB⟩
  go_wp2_with fail
  refine ((unhide HC3) W4).mono ?_; rintro x W5 ⟨rfl, rfl⟩
  cases b3
  case false =>
    go_wp2_with fail
    go_ret
    exact ⟨by simp, unhide HB⟩
  go_wp2_with fail
  go_ret
  exact ⟨by simp [bne_dec, beq_dec], unhide HB⟩
theorem rinterval_any (p q : Int) (w : World) : Calls Tryz.prog 140 #[.agg #[.int .i64 p, .int .i64 q]] w fun x w' => x = .returned (.bool (inR p 0 1048576 && inR q 0 1048576 && decide (p ≤ q))) ∧ Below w.heap.size w w' := by
  obtain ⟨b0, hb0⟩ : ∃ b, b = inR p 0 1048576 := ⟨_, rfl⟩
  rw [← hb0]
  have HC0 := hide fun W => rday_any p W
  rw [← hb0] at HC0
  clear hb0
  obtain ⟨b1, hb1⟩ : ∃ b, b = inR q 0 1048576 := ⟨_, rfl⟩
  rw [← hb1]
  have HC1 := hide fun W => rday_any q W
  rw [← hb1] at HC1
  clear hb1
  go_enter Tryz.func140, Tryz.ntmps140
  go_upto_region 1 with fail
  generalize hX1 : w.alloc _ = W1
  have hB1 : Below w.heap.size w W1 := hX1 ▸ (Below.refl _ _).alloc (Nat.le_refl _) _
  have HV := hide (boxedV w W1 [.int .i64 p, .int .i64 q] 33 (by rw [← hX1]; rfl))
  have hc0 : W1.cell? ⟨w.heap.size, 0, none⟩ = some (.int .i64 p) := (unhide HV).cell rfl
  have hc1 : W1.cell? ⟨w.heap.size, 1, none⟩ = some (.int .i64 q) := (unhide HV).cell rfl
  have HB := hide hB1
  clear hX1 hB1
  go_wp2_with fail
  refine ((unhide HC0) W1).mono ?_; rintro x W2 ⟨rfl, rfl⟩
  cases b0
  case false =>
    go_wp2_with fail
    go_ret
    exact ⟨by simp, unhide HB⟩
  go_wp2_with fail
  refine ((unhide HC1) W2).mono ?_; rintro x W3 ⟨rfl, rfl⟩
  cases b1
  case false =>
    go_wp2_with fail
    go_ret
    exact ⟨by simp, unhide HB⟩
  go_wp2_with fail
  go_ret
  exact ⟨by simp [bne_dec, beq_dec], unhide HB⟩
theorem rleague_any (n : Int) (w : World) : Calls Tryz.prog 134 #[.int .i64 n] w fun x w' => x = .returned (.bool (inR n 0 7)) ∧ w' = w := by
  go_enter Tryz.func134, Tryz.ntmps134
  go_wp2_with fail
  refine (rwithin_any n 0 7 w).mono ?_; rintro x W2 ⟨rfl, rfl⟩
  go_wp2_with fail
  go_ret
  exact ⟨rfl, rfl⟩
theorem rgoals_any (n : Int) (w : World) : Calls Tryz.prog 136 #[.int .i64 n] w fun x w' => x = .returned (.bool (inR n 0 99)) ∧ w' = w := by
  go_enter Tryz.func136, Tryz.ntmps136
  go_wp2_with fail
  refine (rwithin_any n 0 99 w).mono ?_; rintro x W2 ⟨rfl, rfl⟩
  go_wp2_with fail
  go_ret
  exact ⟨rfl, rfl⟩
end Go.Proofs.YtdmaopfaeigelaaGreatDoor
namespace Go.Proofs.YtdmaopfaeigelaaGreatDoor
set_option linter.unusedSimpArgs false
set_option linter.unusedVariables false
set_option maxRecDepth 100000
open Go.RowKit

set_option maxRecDepth 100000 in
set_option maxHeartbeats 1000000 in
theorem rsameInts_any (w : World) (A1 : Option Addr) (n1 c1 : Nat) (l1 : List Int) (e1 : n1 = l1.length) (s1 : Sl w A1 l1 c1) (A2 : Option Addr) (n2 c2 : Nat) (l2 : List Int) (e2 : n2 = l2.length) (s2 : Sl w A2 l2 c2) :
    Calls Tryz.prog 48 #[.slice A1 n1 c1, .slice A2 n2 c2] w fun x w' => x = .returned (.bool (decide (l1 = l2))) ∧ Below w.heap.size w w' := by
  obtain ⟨R, hR⟩ : ∃ R, R = decide (l1 = l2) := ⟨_, rfl⟩
  rw [← hR]
  have HR := hide hR
  have hiff : R = true ↔ l1 = l2 := by rw [hR]; exact decide_eq_true_iff
  have HI := hide hiff
  clear hR hiff
  by_cases hn : n1 = n2
  case neg =>
    have e : R = false := bool_of_not (unhide HI) (fun h => hn (by rw [e1, e2, h]))
    subst e
    have hb : ((n1 : Int) != (n2 : Int)) = true := by rw [bne_iff_ne]; omega
    clear e1 e2 s1 s2 hn
    go_enter Tryz.func48, Tryz.ntmps48
    go_wp2_with fail
    go_ret
    exact ⟨rfl, Below.refl _ _⟩
  obtain ⟨n, hnn⟩ : ∃ n, n = n1 := ⟨_, rfl⟩
  subst hn
  subst hnn
  have H1 := hide s1; have H2 := hide s2
  have HN : Hid (n = l1.length ∧ n = l2.length ∧ n ≤ 1000) := ⟨e1, e2, by have := s1.few; omega⟩
  have kc1 : (n : Int) ≤ (c1 : Int) := by have := s1.cap; omega
  have kc2 : (n : Int) ≤ (c2 : Int) := by have := s2.cap; omega
  have hb : ((n : Int) != (n : Int)) = false := by simp
  clear e1 e2 s1 s2
  go_enter Tryz.func48, Tryz.ntmps48
  go_wp2_with fail
  go_loopg [5] n (fun g y5 wx => ∃ k : Nat, y5 = .int .i64 (k : Int) ∧ g + k = n ∧ (∀ i, i < k → l1.getD i 0 = l2.getD i 0) ∧ Below w.heap.size w wx)
  case atStart => exact ⟨0, rfl, by omega, fun i h1 => by omega, Below.refl _ _⟩
  case round =>
    obtain ⟨k, rfl, hk, hall, hbw⟩ := hrel
    have HB := hide hbw
    have HALL := hide hall
    by_cases hkn : k < n
    · obtain ⟨g, rfl⟩ : ∃ g, gk = g + 1 := ⟨gk - 1, by omega⟩
      have i1 : (k : Int) < (n : Int) := by omega
      have i0 : (0 : Int) ≤ (k : Int) := Int.natCast_nonneg _
      have wk : IntKind.i64.wrap ((k : Int) + 1) = ((k + 1 : Nat) : Int) := (IntWalk.i64_in _ (by have := unhide HN; omega)).trans (by omega)
      obtain ⟨b, o, rfl, hc⟩ := ((unhide H1).it.keep hbw).at_ (fun e => by have := unhide HN; rw [e] at this; simp at this; omega)
      obtain ⟨b', o', rfl, hc'⟩ := ((unhide H2).it.keep hbw).at_ (fun e => by have := unhide HN; rw [e] at this; simp at this; omega)
      have h1 := hc k (by have := unhide HN; omega)
      have h2 := hc' k (by have := unhide HN; omega)
      obtain ⟨x, hx⟩ : ∃ x, x = l1.getD k 0 := ⟨_, rfl⟩
      obtain ⟨y, hy⟩ : ∃ x, x = l2.getD k 0 := ⟨_, rfl⟩
      rw [← hx] at h1
      rw [← hy] at h2
      have HX : Hid (x = l1.getD k 0 ∧ y = l2.getD k 0 ∧ k < n ∧ g + 1 + k = n) := ⟨hx, hy, hkn, hk⟩
      have K1 := hide h1; have K2 := hide h2
      obtain ⟨W, hW⟩ : ∃ W, W = wr.drewN 1 := ⟨_, rfl⟩
      have HW : Hid (W = wr.drewN 1) := hW
      have hS : Below wr.heap.size wr W := below_named HW
      clear hc hc' h1 h2 hx hy hkn hk hall hbw hW
      go_upto_region 6 with fail
      refine held (S := Below wr.heap.size wr) W HW (by kernel_rfl) ?_
      refine wpAnyH_take (i := 0) (v := ?_) rfl (by kernel_rfl) (by kernel_rfl) (by kernel_rfl) (fun _ _ _ h => h) (Or.inl ⟨by kernel_rfl, ?_⟩) (by assumption) ?_
      rotate_left
      · intro Wt hSt
        go_simp
        try with_reducible rfl
      try simp only [List.getElem_toArray, List.getElem_cons_zero, List.getElem_cons_succ, Act.put, List.setIfInBounds_toArray, List.set_cons_zero, List.set_cons_succ]
      refine wpAnyH_take (i := 1) (v := ?_) rfl (by kernel_rfl) (by kernel_rfl) (by kernel_rfl) (fun _ _ _ h => h) (Or.inl ⟨by kernel_rfl, ?_⟩) (by assumption) ?_
      rotate_left
      · intro Wt hSt
        go_simp
        try with_reducible rfl
      try simp only [List.getElem_toArray, List.getElem_cons_zero, List.getElem_cons_succ, Act.put, List.setIfInBounds_toArray, List.set_cons_zero, List.set_cons_succ]
      refine wpAnyH_take (i := 2) (v := ?_) rfl (by kernel_rfl) (by kernel_rfl) (by kernel_rfl) (fun _ _ _ h => h) (Or.inl ⟨by kernel_rfl, ?_⟩) (by assumption) ?_
      rotate_left
      · intro Wt hSt
        go_simp
        try with_reducible rfl
      try simp only [List.getElem_toArray, List.getElem_cons_zero, List.getElem_cons_succ, Act.put, List.setIfInBounds_toArray, List.set_cons_zero, List.set_cons_succ]
      refine wpAnyH_take (i := 3) (v := ?_) rfl (by kernel_rfl) (by kernel_rfl) (by kernel_rfl) (fun _ _ _ h => h) (Or.inl ⟨by kernel_rfl, ?_⟩) (by assumption) ?_
      rotate_left
      · intro Wt hSt
        have hct := (show Wt.cell? ⟨b, o + k, none⟩ = some (.int .i64 x) from (hSt.cell (p := ⟨b, o + k, none⟩) (lt_of_cell (unhide K1))).trans (unhide K1))
        go_simp
        try with_reducible rfl
      try simp only [List.getElem_toArray, List.getElem_cons_zero, List.getElem_cons_succ, Act.put, List.setIfInBounds_toArray, List.set_cons_zero, List.set_cons_succ]
      refine wpAnyH_take (i := 4) (v := ?_) rfl (by kernel_rfl) (by kernel_rfl) (by kernel_rfl) (fun _ _ _ h => h) (Or.inl ⟨by kernel_rfl, ?_⟩) (by assumption) ?_
      rotate_left
      · intro Wt hSt
        go_simp
        try with_reducible rfl
      try simp only [List.getElem_toArray, List.getElem_cons_zero, List.getElem_cons_succ, Act.put, List.setIfInBounds_toArray, List.set_cons_zero, List.set_cons_succ]
      refine wpAnyH_take (i := 5) (v := ?_) rfl (by kernel_rfl) (by kernel_rfl) (by kernel_rfl) (fun _ _ _ h => h) (Or.inl ⟨by kernel_rfl, ?_⟩) (by assumption) ?_
      rotate_left
      · intro Wt hSt
        go_simp
        try with_reducible rfl
      try simp only [List.getElem_toArray, List.getElem_cons_zero, List.getElem_cons_succ, Act.put, List.setIfInBounds_toArray, List.set_cons_zero, List.set_cons_succ]
      refine wpAnyH_take (i := 6) (v := ?_) rfl (by kernel_rfl) (by kernel_rfl) (by kernel_rfl) (fun _ _ _ h => h) (Or.inl ⟨by kernel_rfl, ?_⟩) (by assumption) ?_
      rotate_left
      · intro Wt hSt
        go_simp
        try with_reducible rfl
      try simp only [List.getElem_toArray, List.getElem_cons_zero, List.getElem_cons_succ, Act.put, List.setIfInBounds_toArray, List.set_cons_zero, List.set_cons_succ]
      refine wpAnyH_take (i := 7) (v := ?_) rfl (by kernel_rfl) (by kernel_rfl) (by kernel_rfl) (fun _ _ _ h => h) (Or.inl ⟨by kernel_rfl, ?_⟩) (by assumption) ?_
      rotate_left
      · intro Wt hSt
        have hct := (show Wt.cell? ⟨b', o' + k, none⟩ = some (.int .i64 y) from (hSt.cell (p := ⟨b', o' + k, none⟩) (lt_of_cell (unhide K2))).trans (unhide K2))
        go_simp
        try with_reducible rfl
      try simp only [List.getElem_toArray, List.getElem_cons_zero, List.getElem_cons_succ, Act.put, List.setIfInBounds_toArray, List.set_cons_zero, List.set_cons_succ]
      refine wpAnyH_take (i := 8) (v := ?_) rfl (by kernel_rfl) (by kernel_rfl) (by kernel_rfl) (fun _ _ _ h => h) (Or.inl ⟨by kernel_rfl, ?_⟩) (by assumption) ?_
      rotate_left
      · intro Wt hSt
        go_simp
        try with_reducible rfl
      try simp only [List.getElem_toArray, List.getElem_cons_zero, List.getElem_cons_succ, Act.put, List.setIfInBounds_toArray, List.set_cons_zero, List.set_cons_succ]
      refine wpAnyH_chainOf [] _ _ _ (by kernel_rfl) (by kernel_rfl) ?_
      refine wpChain_nil ?_
      have HS := hide (thenB (unhide HB) hS)
      clear hS
      by_cases hxy : x = y
      · have HXY : Hid (x = y) := hxy
        subst hxy
        have hf : (x != x) = false := by simp
        go_wp2_with fail
        go_roundg g
        case measure => omega
        case rel =>
          have h := unhide HX
          refine ⟨k + 1, rfl, by omega, fun i h1 => ?_, unhide HS⟩
          by_cases hi : i < k
          · exact (unhide HALL) i hi
          · obtain rfl : i = k := by omega
            rw [← h.1, ← h.2.1]
      · have e : R = false := bool_of_not (unhide HI) (fun h => hxy (by
          have hx := unhide HX
          rw [h, ← hx.2.1] at hx
          exact hx.1))
        subst e
        have hf : (x != y) = true := by rw [bne_iff_ne]; exact hxy
        go_wp2_with fail
        go_ret
        exact ⟨rfl, unhide HS⟩
    · have i1 : ¬ (k : Int) < (n : Int) := by omega
      have e : R = true := (unhide HI).2 (list_ext_getD l1 l2 0 (by have := unhide HN; omega) fun i h => hall i (by have := unhide HN; omega))
      subst e
      clear hall hbw hk hkn
      go_wp2_with fail
      go_ret
      exact ⟨rfl, unhide HB⟩
set_option maxRecDepth 100000 in
set_option maxHeartbeats 1000000 in
theorem rsameCards_any (w : World) (A1 : Option Addr) (n1 c1 : Nat) (l1 : List Cd) (e1 : n1 = l1.length) (s1 : Sc w A1 l1 c1) (A2 : Option Addr) (n2 c2 : Nat) (l2 : List Cd) (e2 : n2 = l2.length) (s2 : Sc w A2 l2 c2) :
    Calls Tryz.prog 97 #[.slice A1 n1 c1, .slice A2 n2 c2] w fun x w' => x = .returned (.bool (cdsEq l1 l2)) ∧ Below w.heap.size w w' := by
  obtain ⟨R, hR⟩ : ∃ R, R = cdsEq l1 l2 := ⟨_, rfl⟩
  rw [← hR]
  have HR := hide hR
  have hiff : R = true ↔ l1 = l2 := by rw [hR]; exact cdsEq_iff _ _
  have HI := hide hiff
  clear hR hiff
  by_cases hn : n1 = n2
  case neg =>
    have e : R = false := bool_of_not (unhide HI) (fun h => hn (by rw [e1, e2, h]))
    subst e
    have hb : ((n1 : Int) != (n2 : Int)) = true := by rw [bne_iff_ne]; omega
    clear e1 e2 s1 s2 hn
    go_enter Tryz.func97, Tryz.ntmps97
    go_wp2_with fail
    go_ret
    exact ⟨rfl, Below.refl _ _⟩
  obtain ⟨n, hnn⟩ : ∃ n, n = n1 := ⟨_, rfl⟩
  subst hn
  subst hnn
  have H1 := hide s1; have H2 := hide s2
  have HN : Hid (n = l1.length ∧ n = l2.length ∧ n ≤ 1000) := ⟨e1, e2, by have := s1.few; omega⟩
  have kc1 : (n : Int) ≤ (c1 : Int) := by have := s1.cap; omega
  have kc2 : (n : Int) ≤ (c2 : Int) := by have := s2.cap; omega
  have hb : ((n : Int) != (n : Int)) = false := by simp
  clear e1 e2 s1 s2
  go_enter Tryz.func97, Tryz.ntmps97
  go_wp2_with fail
  go_loopg [5] n (fun g y5 wx => ∃ k : Nat, y5 = .int .i64 (k : Int) ∧ g + k = n ∧ (∀ i, i < k → l1.getD i d0 = l2.getD i d0) ∧ Below w.heap.size w wx)
  case atStart => exact ⟨0, rfl, by omega, fun i h1 => by omega, Below.refl _ _⟩
  case round =>
    obtain ⟨k, rfl, hk, hall, hbw⟩ := hrel
    have HB := hide hbw
    have HALL := hide hall
    by_cases hkn : k < n
    · obtain ⟨g, rfl⟩ : ∃ g, gk = g + 1 := ⟨gk - 1, by omega⟩
      have i1 : (k : Int) < (n : Int) := by omega
      have i0 : (0 : Int) ≤ (k : Int) := Int.natCast_nonneg _
      have wk : IntKind.i64.wrap ((k : Int) + 1) = ((k + 1 : Nat) : Int) := (IntWalk.i64_in _ (by have := unhide HN; omega)).trans (by omega)
      obtain ⟨b, o, rfl, hc⟩ := ((unhide H1).it.keep hbw).at_ (fun e => by have := unhide HN; rw [e] at this; simp at this; omega)
      obtain ⟨b', o', rfl, hc'⟩ := ((unhide H2).it.keep hbw).at_ (fun e => by have := unhide HN; rw [e] at this; simp at this; omega)
      obtain ⟨x, hx⟩ : ∃ x, x = l1.getD k d0 := ⟨_, rfl⟩
      obtain ⟨y, hy⟩ : ∃ x, x = l2.getD k d0 := ⟨_, rfl⟩
      have h1 := hc k x (by rw [hx, List.getD_eq_getElem?_getD, List.getElem?_eq_getElem (by have := unhide HN; omega)]; rfl)
      have h2 := hc' k y (by rw [hy, List.getD_eq_getElem?_getD, List.getElem?_eq_getElem (by have := unhide HN; omega)]; rfl)
      have HX : Hid (x = l1.getD k d0 ∧ y = l2.getD k d0 ∧ k < n ∧ g + 1 + k = n) := ⟨hx, hy, hkn, hk⟩
      have K1 := hide h1; have K2 := hide h2
      obtain ⟨W, hW⟩ : ∃ W, W = wr.drewN 1 := ⟨_, rfl⟩
      have HW : Hid (W = wr.drewN 1) := hW
      have hS : Below wr.heap.size wr W := below_named HW
      clear hc hc' h1 h2 hx hy hkn hk hall hbw hW
      go_upto_region 6 with fail
      refine held (S := Below wr.heap.size wr) W HW (by kernel_rfl) ?_
      refine wpAnyH_take (i := 0) (v := ?_) rfl (by kernel_rfl) (by kernel_rfl) (by kernel_rfl) (fun _ _ _ h => h) (Or.inl ⟨by kernel_rfl, ?_⟩) (by assumption) ?_
      rotate_left
      · intro Wt hSt
        go_simp
        try with_reducible rfl
      try simp only [List.getElem_toArray, List.getElem_cons_zero, List.getElem_cons_succ, Act.put, List.setIfInBounds_toArray, List.set_cons_zero, List.set_cons_succ]
      refine wpAnyH_take (i := 1) (v := ?_) rfl (by kernel_rfl) (by kernel_rfl) (by kernel_rfl) (fun _ _ _ h => h) (Or.inl ⟨by kernel_rfl, ?_⟩) (by assumption) ?_
      rotate_left
      · intro Wt hSt
        go_simp
        try with_reducible rfl
      try simp only [List.getElem_toArray, List.getElem_cons_zero, List.getElem_cons_succ, Act.put, List.setIfInBounds_toArray, List.set_cons_zero, List.set_cons_succ]
      refine wpAnyH_take (i := 2) (v := ?_) rfl (by kernel_rfl) (by kernel_rfl) (by kernel_rfl) (fun _ _ _ h => h) (Or.inl ⟨by kernel_rfl, ?_⟩) (by assumption) ?_
      rotate_left
      · intro Wt hSt
        go_simp
        try with_reducible rfl
      try simp only [List.getElem_toArray, List.getElem_cons_zero, List.getElem_cons_succ, Act.put, List.setIfInBounds_toArray, List.set_cons_zero, List.set_cons_succ]
      obtain ⟨xp, xr⟩ := x
      obtain ⟨yp, yr⟩ := y
      refine wpAnyH_take (i := 3) (v := ?_) rfl (by kernel_rfl) (by kernel_rfl) (by kernel_rfl) (fun _ _ _ h => h) (Or.inl ⟨by kernel_rfl, ?_⟩) (by assumption) ?_
      rotate_left
      · intro Wt hSt
        have hct := (show Wt.cell? ⟨b, o + k * 2, none⟩ = some (.int .i64 xp) from (hSt.cell (p := ⟨b, o + k * 2, none⟩) (lt_of_cell (unhide K1).1)).trans (unhide K1).1)
        have hcu := (show Wt.cell? ⟨b, o + k * 2 + 1, none⟩ = some (.bool xr) from (hSt.cell (p := ⟨b, o + k * 2 + 1, none⟩) (lt_of_cell (unhide K1).2)).trans (unhide K1).2)
        go_simp
        try with_reducible rfl
      try simp only [List.getElem_toArray, List.getElem_cons_zero, List.getElem_cons_succ, Act.put, List.setIfInBounds_toArray, List.set_cons_zero, List.set_cons_succ]
      refine wpAnyH_take (i := 4) (v := ?_) rfl (by kernel_rfl) (by kernel_rfl) (by kernel_rfl) (fun _ _ _ h => h) (Or.inl ⟨by kernel_rfl, ?_⟩) (by assumption) ?_
      rotate_left
      · intro Wt hSt
        go_simp
        try with_reducible rfl
      try simp only [List.getElem_toArray, List.getElem_cons_zero, List.getElem_cons_succ, Act.put, List.setIfInBounds_toArray, List.set_cons_zero, List.set_cons_succ]
      refine wpAnyH_take (i := 5) (v := ?_) rfl (by kernel_rfl) (by kernel_rfl) (by kernel_rfl) (fun _ _ _ h => h) (Or.inl ⟨by kernel_rfl, ?_⟩) (by assumption) ?_
      rotate_left
      · intro Wt hSt
        go_simp
        try with_reducible rfl
      try simp only [List.getElem_toArray, List.getElem_cons_zero, List.getElem_cons_succ, Act.put, List.setIfInBounds_toArray, List.set_cons_zero, List.set_cons_succ]
      refine wpAnyH_take (i := 6) (v := ?_) rfl (by kernel_rfl) (by kernel_rfl) (by kernel_rfl) (fun _ _ _ h => h) (Or.inl ⟨by kernel_rfl, ?_⟩) (by assumption) ?_
      rotate_left
      · intro Wt hSt
        go_simp
        try with_reducible rfl
      try simp only [List.getElem_toArray, List.getElem_cons_zero, List.getElem_cons_succ, Act.put, List.setIfInBounds_toArray, List.set_cons_zero, List.set_cons_succ]
      refine wpAnyH_take (i := 7) (v := ?_) rfl (by kernel_rfl) (by kernel_rfl) (by kernel_rfl) (fun _ _ _ h => h) (Or.inl ⟨by kernel_rfl, ?_⟩) (by assumption) ?_
      rotate_left
      · intro Wt hSt
        have hct := (show Wt.cell? ⟨b', o' + k * 2, none⟩ = some (.int .i64 yp) from (hSt.cell (p := ⟨b', o' + k * 2, none⟩) (lt_of_cell (unhide K2).1)).trans (unhide K2).1)
        have hcu := (show Wt.cell? ⟨b', o' + k * 2 + 1, none⟩ = some (.bool yr) from (hSt.cell (p := ⟨b', o' + k * 2 + 1, none⟩) (lt_of_cell (unhide K2).2)).trans (unhide K2).2)
        go_simp
        try with_reducible rfl
      try simp only [List.getElem_toArray, List.getElem_cons_zero, List.getElem_cons_succ, Act.put, List.setIfInBounds_toArray, List.set_cons_zero, List.set_cons_succ]
      obtain ⟨z, hz⟩ : ∃ z, z = cdEq ⟨xp, xr⟩ ⟨yp, yr⟩ := ⟨_, rfl⟩
      have HZ := hide hz
      clear hz
      refine wpAnyH_take (i := 8) (v := .bool (!z)) rfl (by kernel_rfl) (by kernel_rfl) (by kernel_rfl) (fun _ _ _ h => h) (Or.inl ⟨by kernel_rfl, ?_⟩) (by assumption) ?_
      · intro Wt hSt
        go_simp
        rw [unhide HZ]
        unfold cdEq
        by_cases h1 : xp = yp <;> by_cases h2 : xr = yr <;> simp [h1, h2]
      try simp only [List.getElem_toArray, List.getElem_cons_zero, List.getElem_cons_succ, Act.put, List.setIfInBounds_toArray, List.set_cons_zero, List.set_cons_succ]
      refine wpAnyH_chainOf [] _ _ _ (by kernel_rfl) (by kernel_rfl) ?_
      refine wpChain_nil ?_
      have HS := hide (thenB (unhide HB) hS)
      clear hS
      cases z
      rotate_left
      · have HXY : Hid ((⟨xp, xr⟩ : Cd) = ⟨yp, yr⟩) := (cdEq_iff _ _).1 (unhide HZ).symm
        
        
        go_wp2_with fail
        go_roundg g
        case measure => omega
        case rel =>
          have h := unhide HX
          refine ⟨k + 1, rfl, by omega, fun i h1 => ?_, unhide HS⟩
          by_cases hi : i < k
          · exact (unhide HALL) i hi
          · obtain rfl : i = k := by omega
            rw [← h.1, ← h.2.1]; exact unhide HXY
      · have e : R = false := bool_of_not (unhide HI) (fun h => absurd ((cdEq_iff ⟨xp, xr⟩ ⟨yp, yr⟩).2 (by
          have hx := unhide HX
          rw [h, ← hx.2.1] at hx
          exact hx.1)) (by rw [← unhide HZ]; decide))
        subst e
        
        go_wp2_with fail
        go_ret
        exact ⟨rfl, unhide HS⟩
    · have i1 : ¬ (k : Int) < (n : Int) := by omega
      have e : R = true := (unhide HI).2 (list_ext_getD l1 l2 d0 (by have := unhide HN; omega) fun i h => hall i (by have := unhide HN; omega))
      subst e
      clear hall hbw hk hkn
      go_wp2_with fail
      go_ret
      exact ⟨rfl, unhide HB⟩
set_option maxRecDepth 100000 in
set_option maxHeartbeats 1000000 in
theorem rincr_any (w : World) (A : Option Addr) (n c : Nat) (l : List Int) (hn : n = l.length) (hA : Sl w A l c) :
    Calls Tryz.prog 133 #[.slice A n c] w fun x w' => x = .returned (.bool (incr l)) ∧ Below w.heap.size w w' := by
  have HA := hide hA
  have HN : Hid (n = l.length ∧ n ≤ 1000) := ⟨hn, by have := hA.few; omega⟩
  have kc : (n : Int) ≤ (c : Int) := by have := hA.cap; omega
  clear hA hn
  go_enter Tryz.func133, Tryz.ntmps133
  go_wp2_with fail
  go_loopg [3] n (fun g y3 wx => ∃ k : Nat, y3 = .int .i64 (k : Int) ∧ g + k = n + 1 ∧ 1 ≤ k ∧ (∀ i, 1 ≤ i → i < k → i < l.length → l.getD (i - 1) 0 < l.getD i 0) ∧ Below w.heap.size w wx)
  case atStart => exact ⟨1, rfl, by omega, Nat.le_refl _, fun i h1 h2 => by omega, Below.refl _ _⟩
  case round =>
    obtain ⟨k, rfl, hk, hk1, hall, hb⟩ := hrel
    have HB := hide hb
    have HALL := hide hall
    by_cases hkn : k < n
    · obtain ⟨g, rfl⟩ : ∃ g, gk = g + 1 := ⟨gk - 1, by omega⟩
      have i1 : (k : Int) < (n : Int) := by omega
      have i0 : (0 : Int) ≤ (k : Int) := Int.natCast_nonneg _
      obtain ⟨j, hj⟩ : ∃ j, j = k - 1 := ⟨_, rfl⟩
      have wj : IntKind.i64.wrap ((k : Int) - 1) = (j : Int) := (IntWalk.i64_in _ (by have := unhide HN; omega)).trans (by omega)
      have wk : IntKind.i64.wrap ((k : Int) + 1) = ((k + 1 : Nat) : Int) := (IntWalk.i64_in _ (by have := unhide HN; omega)).trans (by omega)
      have j0 : (0 : Int) ≤ (j : Int) := Int.natCast_nonneg _
      have j1 : (j : Int) < (n : Int) := by omega
      obtain ⟨b, o, rfl, hc⟩ := ((unhide HA).it.keep hb).at_ (fun e => by have := unhide HN; rw [e] at this; simp at this; omega)
      have h1 := hc j (by have := unhide HN; omega)
      have h2 := hc k (by have := unhide HN; omega)
      obtain ⟨x, hx⟩ : ∃ x, x = l.getD j 0 := ⟨_, rfl⟩
      obtain ⟨y, hy⟩ : ∃ x, x = l.getD k 0 := ⟨_, rfl⟩
      rw [← hx] at h1
      rw [← hy] at h2
      have HX : Hid (x = l.getD j 0 ∧ y = l.getD k 0 ∧ j = k - 1 ∧ 1 ≤ k ∧ k < n ∧ g + 1 + k = n + 1) := ⟨hx, hy, hj, hk1, hkn, hk⟩
      have H1 := hide h1; have H2 := hide h2
      obtain ⟨W, hW⟩ : ∃ W, W = wr.drewN 1 := ⟨_, rfl⟩
      have HW : Hid (W = wr.drewN 1) := hW
      have hS : Below wr.heap.size wr W := below_named HW
      clear hc h1 h2 hx hy hj hk1 hkn hk hall hb hW
      go_upto_region 4 with fail
      refine held (S := Below wr.heap.size wr) W HW (by kernel_rfl) ?_
      refine wpAnyH_take (i := 0) (v := ?_) rfl (by kernel_rfl) (by kernel_rfl) (by kernel_rfl) (fun _ _ _ h => h) (Or.inl ⟨by kernel_rfl, ?_⟩) (by assumption) ?_
      rotate_left
      · intro Wt hSt
        go_simp
        try with_reducible rfl
      try simp only [List.getElem_toArray, List.getElem_cons_zero, List.getElem_cons_succ, Act.put, List.setIfInBounds_toArray, List.set_cons_zero, List.set_cons_succ]
      refine wpAnyH_take (i := 1) (v := ?_) rfl (by kernel_rfl) (by kernel_rfl) (by kernel_rfl) (fun _ _ _ h => h) (Or.inl ⟨by kernel_rfl, ?_⟩) (by assumption) ?_
      rotate_left
      · intro Wt hSt
        go_simp
        try with_reducible rfl
      try simp only [List.getElem_toArray, List.getElem_cons_zero, List.getElem_cons_succ, Act.put, List.setIfInBounds_toArray, List.set_cons_zero, List.set_cons_succ]
      refine wpAnyH_take (i := 2) (v := ?_) rfl (by kernel_rfl) (by kernel_rfl) (by kernel_rfl) (fun _ _ _ h => h) (Or.inl ⟨by kernel_rfl, ?_⟩) (by assumption) ?_
      rotate_left
      · intro Wt hSt
        go_simp
        try with_reducible rfl
      try simp only [List.getElem_toArray, List.getElem_cons_zero, List.getElem_cons_succ, Act.put, List.setIfInBounds_toArray, List.set_cons_zero, List.set_cons_succ]
      refine wpAnyH_take (i := 3) (v := ?_) rfl (by kernel_rfl) (by kernel_rfl) (by kernel_rfl) (fun _ _ _ h => h) (Or.inl ⟨by kernel_rfl, ?_⟩) (by assumption) ?_
      rotate_left
      · intro Wt hSt
        go_simp
        try with_reducible rfl
      try simp only [List.getElem_toArray, List.getElem_cons_zero, List.getElem_cons_succ, Act.put, List.setIfInBounds_toArray, List.set_cons_zero, List.set_cons_succ]
      refine wpAnyH_take (i := 4) (v := ?_) rfl (by kernel_rfl) (by kernel_rfl) (by kernel_rfl) (fun _ _ _ h => h) (Or.inl ⟨by kernel_rfl, ?_⟩) (by assumption) ?_
      rotate_left
      · intro Wt hSt
        have hct := (show Wt.cell? ⟨b, o + j, none⟩ = some (.int .i64 x) from (hSt.cell (p := ⟨b, o + j, none⟩) (lt_of_cell (unhide H1))).trans (unhide H1))
        go_simp
        try with_reducible rfl
      try simp only [List.getElem_toArray, List.getElem_cons_zero, List.getElem_cons_succ, Act.put, List.setIfInBounds_toArray, List.set_cons_zero, List.set_cons_succ]
      refine wpAnyH_take (i := 5) (v := ?_) rfl (by kernel_rfl) (by kernel_rfl) (by kernel_rfl) (fun _ _ _ h => h) (Or.inl ⟨by kernel_rfl, ?_⟩) (by assumption) ?_
      rotate_left
      · intro Wt hSt
        go_simp
        try with_reducible rfl
      try simp only [List.getElem_toArray, List.getElem_cons_zero, List.getElem_cons_succ, Act.put, List.setIfInBounds_toArray, List.set_cons_zero, List.set_cons_succ]
      refine wpAnyH_take (i := 6) (v := ?_) rfl (by kernel_rfl) (by kernel_rfl) (by kernel_rfl) (fun _ _ _ h => h) (Or.inl ⟨by kernel_rfl, ?_⟩) (by assumption) ?_
      rotate_left
      · intro Wt hSt
        go_simp
        try with_reducible rfl
      try simp only [List.getElem_toArray, List.getElem_cons_zero, List.getElem_cons_succ, Act.put, List.setIfInBounds_toArray, List.set_cons_zero, List.set_cons_succ]
      refine wpAnyH_take (i := 7) (v := ?_) rfl (by kernel_rfl) (by kernel_rfl) (by kernel_rfl) (fun _ _ _ h => h) (Or.inl ⟨by kernel_rfl, ?_⟩) (by assumption) ?_
      rotate_left
      · intro Wt hSt
        go_simp
        try with_reducible rfl
      try simp only [List.getElem_toArray, List.getElem_cons_zero, List.getElem_cons_succ, Act.put, List.setIfInBounds_toArray, List.set_cons_zero, List.set_cons_succ]
      refine wpAnyH_take (i := 8) (v := ?_) rfl (by kernel_rfl) (by kernel_rfl) (by kernel_rfl) (fun _ _ _ h => h) (Or.inl ⟨by kernel_rfl, ?_⟩) (by assumption) ?_
      rotate_left
      · intro Wt hSt
        have hct := (show Wt.cell? ⟨b, o + k, none⟩ = some (.int .i64 y) from (hSt.cell (p := ⟨b, o + k, none⟩) (lt_of_cell (unhide H2))).trans (unhide H2))
        go_simp
        try with_reducible rfl
      try simp only [List.getElem_toArray, List.getElem_cons_zero, List.getElem_cons_succ, Act.put, List.setIfInBounds_toArray, List.set_cons_zero, List.set_cons_succ]
      refine wpAnyH_take (i := 9) (v := ?_) rfl (by kernel_rfl) (by kernel_rfl) (by kernel_rfl) (fun _ _ _ h => h) (Or.inl ⟨by kernel_rfl, ?_⟩) (by assumption) ?_
      rotate_left
      · intro Wt hSt
        go_simp
        try with_reducible rfl
      try simp only [List.getElem_toArray, List.getElem_cons_zero, List.getElem_cons_succ, Act.put, List.setIfInBounds_toArray, List.set_cons_zero, List.set_cons_succ]
      refine wpAnyH_chainOf [] _ _ _ (by kernel_rfl) (by kernel_rfl) ?_
      refine wpChain_nil ?_
      have HS := hide (thenB (unhide HB) hS)
      clear hS
      by_cases hxy : y ≤ x
      · have e : incr l = false := incr_no (i := k) (by have := unhide HX; omega) (by have := unhide HX; have := unhide HN; omega) (by have h := unhide HX; rw [← h.2.2.1, ← h.1, ← h.2.1]; omega)
        have E := hide e
        clear e
        go_wp2_with fail
        go_ret
        exact ⟨by rw [unhide E]; rfl, unhide HS⟩
      · go_wp2_with fail
        go_roundg g
        case measure => omega
        case rel =>
          have h := unhide HX
          refine ⟨k + 1, rfl, by omega, by omega, fun i h1 h2 h3 => ?_, unhide HS⟩
          by_cases hi : i < k
          · exact (unhide HALL) i h1 hi h3
          · obtain rfl : i = k := by omega
            rw [← h.2.2.1, ← h.1, ← h.2.1]
            omega
    · have i1 : ¬ (k : Int) < (n : Int) := by omega
      have e : incr l = true := (incr_iff l).2 fun i h1 h2 => hall i h1 (by have := unhide HN; omega) h2
      have E := hide e
      clear e hall hb hk hkn
      go_wp2_with fail
      go_ret
      exact ⟨by rw [unhide E]; rfl, unhide HB⟩
theorem getD_mem {l : List Int} {k : Nat} (h : k < l.length) : l.getD k 0 ∈ l := by
  rw [List.getD_eq_getElem?_getD, List.getElem?_eq_getElem h]
  exact List.getElem_mem _
theorem mem_getD {l : List Int} {x : Int} (h : x ∈ l) : ∃ k, k < l.length ∧ l.getD k 0 = x := by
  obtain ⟨i, hi⟩ := List.getElem?_of_mem h
  exact ⟨i, (List.getElem?_eq_some_iff.1 hi).1, by rw [List.getD_eq_getElem?_getD, hi]; rfl⟩
set_option maxRecDepth 100000 in
set_option maxHeartbeats 1000000 in
theorem rmember_any (w : World) (A : Option Addr) (n c : Nat) (l : List Int) (hn : n = l.length) (hA : Sl w A l c) (m : Int) :
    Calls Tryz.prog 139 #[.slice A n c, .int .i64 m] w fun x w' => x = .returned (.bool (l.contains m)) ∧ w' = w := by
  obtain ⟨R, hR⟩ : ∃ R, R = l.contains m := ⟨_, rfl⟩
  rw [← hR]
  have HR := hide hR
  clear hR
  have HA := hide hA
  have HN : Hid (n = l.length ∧ n ≤ 1000) := ⟨hn, by have := hA.few; omega⟩
  have kc : (n : Int) ≤ (c : Int) := by have := hA.cap; omega
  clear hA hn
  go_enter Tryz.func139, Tryz.ntmps139
  go_wp2_with fail
  go_loopg [5] n (fun g y5 wx => ∃ k : Nat, y5 = .int .i64 (k : Int) ∧ g + k = n ∧ (∀ i, i < k → l.getD i 0 ≠ m) ∧ wx = w)
  case atStart => exact ⟨0, rfl, by omega, fun i h => by omega, rfl⟩
  case round =>
    obtain ⟨k, rfl, hk, hall, rfl⟩ := hrel
    have HALL := hide hall
    by_cases hkn : k < n
    · obtain ⟨g, rfl⟩ : ∃ g, gk = g + 1 := ⟨gk - 1, by omega⟩
      have i1 : (k : Int) < (n : Int) := by omega
      have i0 : (0 : Int) ≤ (k : Int) := Int.natCast_nonneg _
      have wk : IntKind.i64.wrap ((k : Int) + 1) = ((k + 1 : Nat) : Int) := (IntWalk.i64_in _ (by have := unhide HN; omega)).trans (by omega)
      obtain ⟨b, o, rfl, hc⟩ := (unhide HA).it.at_ (fun e => by have := unhide HN; rw [e] at this; simp at this; omega)
      have h1 := hc k (by have := unhide HN; omega)
      obtain ⟨x, hx⟩ : ∃ x, x = l.getD k 0 := ⟨_, rfl⟩
      rw [← hx] at h1
      have HX : Hid (x = l.getD k 0 ∧ k < n ∧ g + 1 + k = n) := ⟨hx, hkn, hk⟩
      clear hc hx hkn hk hall
      by_cases hxm : x = m
      · have e : l.contains m = true := by
          rw [List.contains_iff_mem, ← hxm, (unhide HX).1]
          exact getD_mem (by have := unhide HX; have := unhide HN; omega)
        have e : R = true := (unhide HR).trans e
        subst e
        have hb : (x == m) = true := by rw [beq_iff_eq]; exact hxm
        clear hxm
        go_wp2_with fail
        go_ret
        exact ⟨rfl, rfl⟩
      · have HNE := hide hxm
        have hb : (x == m) = false := by rw [beq_eq_false_iff_ne]; exact hxm
        clear hxm
        go_wp2_with fail
        go_roundg g
        case measure => omega
        case rel =>
          have h := unhide HX
          refine ⟨k + 1, rfl, by omega, fun i h1 => ?_, rfl⟩
          by_cases hi : i < k
          · exact (unhide HALL) i hi
          · obtain rfl : i = k := by omega
            rw [← h.1]
            exact unhide HNE
    · have i1 : ¬ (k : Int) < (n : Int) := by omega
      have e : l.contains m = false := by
        cases e : l.contains m
        · rfl
        · obtain ⟨j, hj, hm⟩ := mem_getD (List.contains_iff_mem.1 e)
          exact absurd hm (hall j (by have := unhide HN; omega))
      have e : R = false := (unhide HR).trans e
      subst e
      clear hall hk hkn
      go_wp2_with fail
      go_ret
      exact ⟨rfl, rfl⟩
set_option maxRecDepth 100000 in
set_option maxHeartbeats 1000000 in
theorem rclubs_any (w : World) (A : Option Addr) (n c : Nat) (l : List Int) (hn : n = l.length) (hA : Sl w A l c) :
    Calls Tryz.prog 132 #[.slice A n c, .int .i64 2, .int .i64 24] w fun x w' => x = .returned (.bool (okClubs l)) ∧ w' = w := by
  obtain ⟨R, hR⟩ : ∃ R, R = (okClubs l) := ⟨_, rfl⟩
  rw [← hR]
  have HR := hide hR
  clear hR
  have HA := hide hA
  have HN : Hid (n = l.length ∧ n ≤ 1000) := ⟨hn, by have := hA.few; omega⟩
  have kc : (n : Int) ≤ (c : Int) := by have := hA.cap; omega
  clear hA hn
  go_enter Tryz.func132, Tryz.ntmps132
  go_wp2_with fail
  go_loopg [7] n (fun g yv wx => ∃ k : Nat, yv = .int .i64 (k : Int) ∧ g + k = n ∧ (∀ i, i < k → inR (l.getD i 0) 0 191 = true) ∧ wx = w)
  case atStart => exact ⟨0, rfl, by omega, fun i h => by omega, rfl⟩
  case round =>
    obtain ⟨k, rfl, hk, hall, rfl⟩ := hrel
    have HALL := hide hall
    by_cases hkn : k < n
    · obtain ⟨g, rfl⟩ : ∃ g, gk = g + 1 := ⟨gk - 1, by omega⟩
      have i1 : (k : Int) < (n : Int) := by omega
      have i0 : (0 : Int) ≤ (k : Int) := Int.natCast_nonneg _
      have wk : IntKind.i64.wrap ((k : Int) + 1) = ((k + 1 : Nat) : Int) := (IntWalk.i64_in _ (by have := unhide HN; omega)).trans (by omega)
      obtain ⟨b, o, rfl, hc⟩ := (unhide HA).it.at_ (fun e => by have := unhide HN; rw [e] at this; simp at this; omega)
      have h1 := hc k (by have := unhide HN; omega)
      obtain ⟨x, hx⟩ : ∃ x, x = l.getD k 0 := ⟨_, rfl⟩
      rw [← hx] at h1
      have HX : Hid (x = l.getD k 0 ∧ k < n ∧ g + 1 + k = n) := ⟨hx, hkn, hk⟩
      clear hc hx hkn hk hall
      obtain ⟨z, hz⟩ : ∃ z, z = inR x 0 191 := ⟨_, rfl⟩
      have hcal := rclub_any x wr
      rw [← hz] at hcal
      have HC := hide hcal; have HZ := hide hz
      clear hcal hz
      go_wp2_with fail
      refine (unhide HC).mono ?_; rintro e W2 ⟨rfl, rfl⟩
      cases z
      case false =>
        have e : R = false := by
          have h : (l.all fun x => inR x 0 191) = false := by
            rw [List.all_eq_false]
            refine ⟨l.getD k 0, getD_mem (by have := unhide HX; have := unhide HN; omega), ?_⟩
            rw [← (unhide HX).1, ← unhide HZ]; decide
          rw [unhide HR]
          unfold okClubs
          rw [h, Bool.and_false]
        subst e
        go_wp2_with fail
        go_ret
        exact ⟨rfl, rfl⟩
      go_wp2_with fail
      go_roundg g
      case measure => omega
      case rel =>
        have h := unhide HX
        refine ⟨k + 1, rfl, by omega, fun i h1 => ?_, rfl⟩
        by_cases hi : i < k
        · exact (unhide HALL) i hi
        · obtain rfl : i = k := by omega
          rw [← h.1, ← unhide HZ]
    · have i1 : ¬ (k : Int) < (n : Int) := by omega
      have e : (l.all fun x => inR x 0 191) = true := by
        rw [List.all_eq_true]
        intro x hx
        obtain ⟨i, hi, rfl⟩ := mem_getD hx
        exact hall i (by have := unhide HN; omega)
      have E := hide e
      clear e hall hk hkn
      have hwi := rwithin_any (n : Int) 2 24 wr
      obtain ⟨b0, hb0⟩ : ∃ b, b = inR (n : Int) 2 24 := ⟨_, rfl⟩
      rw [← hb0] at hwi
      have e : R = b0 := by
        rw [unhide HR]
        unfold okClubs
        rw [unhide E, ← (unhide HN).1, ← hb0, Bool.and_true]
      have HW := hide hwi
      clear hwi hb0
      subst e
      go_wp2_with fail
      refine (unhide HW).mono ?_; rintro e W2 ⟨rfl, rfl⟩
      go_wp2_with fail
      go_ret
      exact ⟨rfl, rfl⟩
set_option maxRecDepth 100000 in
set_option maxHeartbeats 1000000 in
theorem rsquad_any (w : World) (A : Option Addr) (n c : Nat) (l : List Int) (hn : n = l.length) (hA : Sl w A l c) :
    Calls Tryz.prog 137 #[.slice A n c] w fun x w' => x = .returned (.bool (okSquad l)) ∧ Below w.heap.size w w' := by
  have hin := rincr_any w A n c l hn hA
  obtain ⟨b2, hb2⟩ : ∃ b, b = incr l := ⟨_, rfl⟩
  rw [← hb2] at hin
  have HI := hide hin; have HB2 := hide hb2
  clear hin hb2
  obtain ⟨R, hR⟩ : ∃ R, R = (okSquad l) := ⟨_, rfl⟩
  rw [← hR]
  have HR := hide hR
  clear hR
  have HA := hide hA
  have HN : Hid (n = l.length ∧ n ≤ 1000) := ⟨hn, by have := hA.few; omega⟩
  have kc : (n : Int) ≤ (c : Int) := by have := hA.cap; omega
  clear hA hn
  go_enter Tryz.func137, Tryz.ntmps137
  go_wp2_with fail
  go_loopg [3] n (fun g yv wx => ∃ k : Nat, yv = .int .i64 (k : Int) ∧ g + k = n ∧ (∀ i, i < k → inR (l.getD i 0) 0 8191 = true) ∧ wx = w)
  case atStart => exact ⟨0, rfl, by omega, fun i h => by omega, rfl⟩
  case round =>
    obtain ⟨k, rfl, hk, hall, rfl⟩ := hrel
    have HALL := hide hall
    by_cases hkn : k < n
    · obtain ⟨g, rfl⟩ : ∃ g, gk = g + 1 := ⟨gk - 1, by omega⟩
      have i1 : (k : Int) < (n : Int) := by omega
      have i0 : (0 : Int) ≤ (k : Int) := Int.natCast_nonneg _
      have wk : IntKind.i64.wrap ((k : Int) + 1) = ((k + 1 : Nat) : Int) := (IntWalk.i64_in _ (by have := unhide HN; omega)).trans (by omega)
      obtain ⟨b, o, rfl, hc⟩ := (unhide HA).it.at_ (fun e => by have := unhide HN; rw [e] at this; simp at this; omega)
      have h1 := hc k (by have := unhide HN; omega)
      obtain ⟨x, hx⟩ : ∃ x, x = l.getD k 0 := ⟨_, rfl⟩
      rw [← hx] at h1
      have HX : Hid (x = l.getD k 0 ∧ k < n ∧ g + 1 + k = n) := ⟨hx, hkn, hk⟩
      clear hc hx hkn hk hall
      obtain ⟨z, hz⟩ : ∃ z, z = inR x 0 8191 := ⟨_, rfl⟩
      have hcal := rplayer_any x wr
      rw [← hz] at hcal
      have HC := hide hcal; have HZ := hide hz
      clear hcal hz
      go_wp2_with fail
      refine (unhide HC).mono ?_; rintro e W2 ⟨rfl, rfl⟩
      cases z
      case false =>
        have e : R = false := by
          have h : (l.all fun x => inR x 0 8191) = false := by
            rw [List.all_eq_false]
            refine ⟨l.getD k 0, getD_mem (by have := unhide HX; have := unhide HN; omega), ?_⟩
            rw [← (unhide HX).1, ← unhide HZ]; decide
          rw [unhide HR]
          unfold okSquad
          rw [h, Bool.and_false, Bool.false_and]
        subst e
        go_wp2_with fail
        go_ret
        exact ⟨rfl, Below.refl _ _⟩
      go_wp2_with fail
      go_roundg g
      case measure => omega
      case rel =>
        have h := unhide HX
        refine ⟨k + 1, rfl, by omega, fun i h1 => ?_, rfl⟩
        by_cases hi : i < k
        · exact (unhide HALL) i hi
        · obtain rfl : i = k := by omega
          rw [← h.1, ← unhide HZ]
    · have i1 : ¬ (k : Int) < (n : Int) := by omega
      have e : (l.all fun x => inR x 0 8191) = true := by
        rw [List.all_eq_true]
        intro x hx
        obtain ⟨i, hi, rfl⟩ := mem_getD hx
        exact hall i (by have := unhide HN; omega)
      have E := hide e
      clear e hall hk hkn
      by_cases h0 : n ≤ 40
      · have j0 : (n : Int) ≤ 40 := by omega
        have e : R = b2 := by
          rw [unhide HR]
          unfold okSquad
          rw [unhide E, ← (unhide HN).1, decide_eq_true h0, ← unhide HB2]
          rfl
        subst e
        clear h0
        go_wp2_with fail
        refine (unhide HI).mono ?_; rintro e W2 ⟨rfl, hG⟩
        have HG := hide hG
        clear hG
        go_wp2_with fail
        go_ret
        exact ⟨rfl, unhide HG⟩
      · have j0 : ¬ (n : Int) ≤ 40 := by omega
        have e : R = false := by
          rw [unhide HR]
          unfold okSquad
          rw [← (unhide HN).1, decide_eq_false h0]
          rfl
        subst e
        clear h0
        go_wp2_with fail
        go_ret
        exact ⟨rfl, Below.refl _ _⟩
set_option maxRecDepth 100000 in
set_option maxHeartbeats 1000000 in
theorem rcards_any (w : World) (A : Option Addr) (n c : Nat) (l : List Cd) (hn : n = l.length) (hA : Sc w A l c) (A2 : Option Addr) (n2 c2 : Nat) (k2 : List Int) (hn2 : n2 = k2.length) (hA2 : Sl w A2 k2 c2) :
    Calls Tryz.prog 138 #[.slice A n c, .slice A2 n2 c2] w fun x w' => x = .returned (.bool (okCards l k2)) ∧ w' = w := by
  obtain ⟨R, hR⟩ : ∃ R, R = okCards l k2 := ⟨_, rfl⟩
  rw [← hR]
  have HR := hide hR
  have HMEM := hide fun x => rmember_any w A2 n2 c2 k2 hn2 hA2 x
  clear hR hA2 hn2
  have HA := hide hA
  have HN : Hid (n = l.length ∧ n ≤ 1000) := ⟨hn, by have := hA.few; omega⟩
  have kc : (n : Int) ≤ (c : Int) := by have := hA.cap; omega
  clear hA hn
  go_enter Tryz.func138, Tryz.ntmps138
  go_wp2_with fail
  go_loopg [5] n (fun g yv wx => ∃ k : Nat, yv = .int .i64 (k : Int) ∧ g + k = n ∧ (∀ i, i < k → k2.contains (l.getD i d0).p = true) ∧ wx = w)
  case atStart => exact ⟨0, rfl, by omega, fun i h => by omega, rfl⟩
  case round =>
    obtain ⟨k, rfl, hk, hall, rfl⟩ := hrel
    have HALL := hide hall
    by_cases hkn : k < n
    · obtain ⟨g, rfl⟩ : ∃ g, gk = g + 1 := ⟨gk - 1, by omega⟩
      have i1 : (k : Int) < (n : Int) := by omega
      have i0 : (0 : Int) ≤ (k : Int) := Int.natCast_nonneg _
      have wk : IntKind.i64.wrap ((k : Int) + 1) = ((k + 1 : Nat) : Int) := (IntWalk.i64_in _ (by have := unhide HN; omega)).trans (by omega)
      obtain ⟨b, o, rfl, hc⟩ := (unhide HA).it.at_ (fun e => by have := unhide HN; rw [e] at this; simp at this; omega)
      obtain ⟨x, hx⟩ : ∃ x, x = l.getD k d0 := ⟨_, rfl⟩
      have h1 := (hc k x (by rw [hx, List.getD_eq_getElem?_getD, List.getElem?_eq_getElem (by have := unhide HN; omega)]; rfl)).1
      have HX : Hid (x = l.getD k d0 ∧ k < n ∧ g + 1 + k = n) := ⟨hx, hkn, hk⟩
      clear hc hx hkn hk hall
      obtain ⟨z, hz⟩ : ∃ z, z = k2.contains x.p := ⟨_, rfl⟩
      have hcal := (unhide HMEM) x.p
      rw [← hz] at hcal
      have HC := hide hcal; have HZ := hide hz
      clear hcal hz
      go_wp2_with fail
      refine (unhide HC).mono ?_; rintro e W2 ⟨rfl, rfl⟩
      cases z
      case false =>
        have e : R = false := by
          have h : (l.all fun x => k2.contains x.p) = false := by
            rw [List.all_eq_false]
            refine ⟨l.getD k d0, ?_, ?_⟩
            · rw [List.getD_eq_getElem?_getD, List.getElem?_eq_getElem (by have := unhide HX; have := unhide HN; omega)]
              exact List.getElem_mem _
            · rw [← (unhide HX).1, ← unhide HZ]; decide
          rw [unhide HR]
          unfold okCards
          rw [h, Bool.and_false]
        subst e
        go_wp2_with fail
        go_ret
        exact ⟨rfl, rfl⟩
      go_wp2_with fail
      go_roundg g
      case measure => omega
      case rel =>
        have h := unhide HX
        refine ⟨k + 1, rfl, by omega, fun i h1 => ?_, rfl⟩
        by_cases hi : i < k
        · exact (unhide HALL) i hi
        · obtain rfl : i = k := by omega
          rw [← h.1, ← unhide HZ]
    · have i1 : ¬ (k : Int) < (n : Int) := by omega
      have e : (l.all fun x => k2.contains x.p) = true := by
        rw [List.all_eq_true]
        intro x hx
        obtain ⟨i, hi⟩ := List.getElem?_of_mem hx
        have := hall i (by have := unhide HN; have := (List.getElem?_eq_some_iff.1 hi).1; omega)
        rwa [List.getD_eq_getElem?_getD, hi] at this
      have E := hide e
      clear e hall hk hkn
      by_cases h0 : n ≤ 40
      · have j0 : (n : Int) ≤ 40 := by omega
        have e : R = true := by
          rw [unhide HR]
          unfold okCards
          rw [unhide E, ← (unhide HN).1, decide_eq_true h0]
          rfl
        subst e
        clear h0
        go_wp2_with fail
        go_ret
        exact ⟨rfl, rfl⟩
      · have j0 : ¬ (n : Int) ≤ 40 := by omega
        have e : R = false := by
          rw [unhide HR]
          unfold okCards
          rw [← (unhide HN).1, decide_eq_false h0]
          rfl
        subst e
        clear h0
        go_wp2_with fail
        go_ret
        exact ⟨rfl, rfl⟩
end Go.Proofs.YtdmaopfaeigelaaGreatDoor
namespace Go.Proofs.YtdmaopfaeigelaaGreatDoor
set_option linter.unusedSimpArgs false
set_option linter.unusedVariables false
set_option maxRecDepth 100000
open Go.RowKit

theorem name_first {s : ByteArray} (h : isLet (byteOf s 0) = false) : okName s = false := by
  unfold okName
  rw [h, Bool.and_false, Bool.false_and]
theorem name_size {s : ByteArray} (h : ¬ (1 ≤ s.size ∧ s.size ≤ 24)) : okName s = false := by
  unfold okName inR
  have : (decide ((1 : Int) ≤ (s.size : Int)) && decide ((s.size : Int) ≤ 24)) = false := by
    rw [Bool.and_eq_false_iff, decide_eq_false_iff_not, decide_eq_false_iff_not]
    omega
  rw [this, Bool.false_and, Bool.false_and]
theorem name_at {s : ByteArray} {k : Nat} (hk : k < s.size) (hf : isLet (byteOf s 0) = true) (h : okCh (byteOf s k) = false) : okName s = false := by
  unfold okName
  rw [Bool.and_eq_false_iff]
  right
  rw [List.all_eq_false]
  refine ⟨k, List.mem_range.2 hk, ?_⟩
  have h0 : k ≠ 0 := fun e => by
    subst e
    unfold okCh at h
    rw [hf] at h
    simp at h
  rw [h, decide_eq_false h0]
  decide
theorem name_yes {s : ByteArray} (h1 : 1 ≤ s.size) (h2 : s.size ≤ 24) (hf : isLet (byteOf s 0) = true) (h : ∀ i, i < s.size → okCh (byteOf s i) = true) : okName s = true := by
  unfold okName inR
  rw [hf, decide_eq_true (by omega : (1 : Int) ≤ (s.size : Int)), decide_eq_true (by omega : (s.size : Int) ≤ 24)]
  simp only [Bool.and_true, Bool.true_and, List.all_eq_true, List.mem_range]
  intro i hi
  rw [h i hi, Bool.or_true]
theorem let_iff (c : Nat) : isLet c = true ↔ 97 ≤ c ∧ c ≤ 122 := by
  unfold isLet
  rw [Bool.and_eq_true, decide_eq_true_eq, decide_eq_true_eq]
theorem ch_iff (c : Nat) : okCh c = true ↔ (97 ≤ c ∧ c ≤ 122) ∨ (48 ≤ c ∧ c ≤ 57) ∨ c = 95 := by
  unfold okCh isLet isDig
  simp only [Bool.or_eq_true, Bool.and_eq_true, decide_eq_true_eq, or_assoc]
theorem not_let {c : Nat} (h : ¬ (97 ≤ c ∧ c ≤ 122)) : isLet c = false := by
  cases e : isLet c
  · rfl
  · exact absurd ((let_iff c).1 e) h
theorem not_ch {c : Nat} (h : ¬ ((97 ≤ c ∧ c ≤ 122) ∨ (48 ≤ c ∧ c ≤ 57) ∨ c = 95)) : okCh c = false := by
  cases e : okCh c
  · rfl
  · exact absurd ((ch_iff c).1 e) h
set_option maxRecDepth 100000 in
set_option maxHeartbeats 2000000 in
theorem rname_any (s : ByteArray) (hlim : s.size ≤ 1000000) (w : World) : Calls Tryz.prog 135 #[.string s] w fun x w' => x = .returned (.bool (okName s)) ∧ w' = w := by
  obtain ⟨R, hR⟩ : ∃ R, R = okName s := ⟨_, rfl⟩
  rw [← hR]
  by_cases h1 : s.size < 1
  · have e : R = false := hR.trans (name_size (by omega))
    subst e
    have i1 : (s.size : Int) < 1 := by omega
    clear h1 hR
    go_enter Tryz.func135, Tryz.ntmps135
    go_wp2_with fail
    go_ret
    exact ⟨rfl, rfl⟩
  have i1 : ¬ (s.size : Int) < 1 := by omega
  by_cases h2 : 24 < s.size
  · have e : R = false := hR.trans (name_size (by omega))
    subst e
    have i2 : (s.size : Int) > 24 := by omega
    clear h1 h2 hR
    go_enter Tryz.func135, Tryz.ntmps135
    go_wp2_with fail
    go_ret
    exact ⟨rfl, rfl⟩
  have i2 : ¬ (s.size : Int) > 24 := by omega
  have hp : 0 < s.size := by omega
  obtain ⟨c, hc⟩ : ∃ c, c = byteOf s 0 := ⟨_, rfl⟩
  have hsc : s[0].toNat = c := by rw [hc]; exact byteOf_get s 0 hp
  by_cases h3 : c < 97
  · have e : R = false := hR.trans (name_first (by rw [← hc]; exact not_let (by omega)))
    subst e
    have i3 : (s[0].toNat : Int) < 97 := by omega
    clear h1 h2 h3 hR hc hsc
    go_enter Tryz.func135, Tryz.ntmps135
    go_wp2_with fail
    go_ret
    exact ⟨rfl, rfl⟩
  have i3 : ¬ (s[0].toNat : Int) < 97 := by omega
  by_cases h4 : 122 < c
  · have e : R = false := hR.trans (name_first (by rw [← hc]; exact not_let (by omega)))
    subst e
    have i4 : (s[0].toNat : Int) > 122 := by omega
    clear h1 h2 h3 h4 hR hc hsc
    go_enter Tryz.func135, Tryz.ntmps135
    go_wp2_with fail
    go_ret
    exact ⟨rfl, rfl⟩
  have i4 : ¬ (s[0].toNat : Int) > 122 := by omega
  have HF : Hid (isLet (byteOf s 0) = true) := by
    have : isLet (byteOf s 0) = true := by rw [← hc]; exact (let_iff c).2 ⟨by omega, by omega⟩
    exact this
  have HR := hide hR
  have HS : Hid (1 ≤ s.size ∧ s.size ≤ 24) := ⟨by omega, by omega⟩
  clear h1 h2 h3 h4 hR hc hsc
  go_enter Tryz.func135, Tryz.ntmps135
  go_wp2_with fail
  go_loopg [3] s.size (fun g y3 wx => ∃ k : Nat, y3 = .int .i64 (k : Int) ∧ g + k = s.size ∧ (∀ i, i < k → okCh (byteOf s i) = true) ∧ wx = w)
  case atStart => exact ⟨0, rfl, by omega, fun i h => by omega, rfl⟩
  case round =>
    obtain ⟨k, rfl, hk, hall, rfl⟩ := hrel
    have HALL := hide hall
    clear i1 i2 i3 i4
    by_cases hkn : k < s.size
    · obtain ⟨g, rfl⟩ : ∃ g, gk = g + 1 := ⟨gk - 1, by omega⟩
      have j1 : (k : Int) < (s.size : Int) := by omega
      have j0 : (0 : Int) ≤ (k : Int) := Int.natCast_nonneg _
      have wk : IntKind.i64.wrap ((k : Int) + 1) = ((k + 1 : Nat) : Int) := (IntWalk.i64_in _ (by have := unhide HS; omega)).trans (by omega)
      obtain ⟨c, hc⟩ : ∃ c, c = byteOf s k := ⟨_, rfl⟩
      have hsc : s[k].toNat = c := by rw [hc]; exact byteOf_get s k hkn
      have HX : Hid (c = byteOf s k ∧ k < s.size ∧ g + 1 + k = s.size) := ⟨hc, hkn, hk⟩
      have hgo : okCh c = true → ∀ i, i < k + 1 → okCh (byteOf s i) = true := fun h i h2 => by
        by_cases hi : i < k
        · exact (unhide HALL) i hi
        · obtain rfl : i = k := by omega
          rw [← hc]; exact h
      have HGO := hide hgo
      have hbad : okCh c = false → R = false := fun h => (unhide HR).trans (name_at (unhide HX).2.1 (unhide HF) (by rw [← hc]; exact h))
      have HBAD := hide hbad
      clear hgo hbad hk hall hc
      by_cases a1 : c < 97
      · have x1 : (s[k].toNat : Int) < 97 := by omega
        by_cases a2 : c < 48
        · have x2 : (s[k].toNat : Int) < 48 := by omega
          have x3 : ((s[k].toNat : Int) != 95) = true := by rw [bne_iff_ne]; omega
          have e : R = false := (unhide HBAD) (not_ch (by omega))
          subst e
          clear a1 a2 hsc
          go_wp2_with fail
          go_ret
          exact ⟨rfl, rfl⟩
        · have x2 : ¬ (s[k].toNat : Int) < 48 := by omega
          by_cases a3 : 57 < c
          · have x3 : (s[k].toNat : Int) > 57 := by omega
            by_cases a4 : c = 95
            · have x4 : ((s[k].toNat : Int) != 95) = false := by rw [hsc, a4]; rfl
              have HOK : Hid (okCh c = true) := (ch_iff c).2 (by omega)
              clear a1 a2 a3 a4 hsc
              go_wp2_with fail
              go_roundg g
              case measure => omega
              case rel =>
                have h := unhide HX
                exact ⟨k + 1, rfl, by omega, (unhide HGO) (unhide HOK), rfl⟩
            · have x4 : ((s[k].toNat : Int) != 95) = true := by rw [bne_iff_ne]; omega
              have e : R = false := (unhide HBAD) (not_ch (by omega))
              subst e
              clear a1 a2 a3 a4 hsc
              go_wp2_with fail
              go_ret
              exact ⟨rfl, rfl⟩
          · have x3 : ¬ (s[k].toNat : Int) > 57 := by omega
            have HOK : Hid (okCh c = true) := (ch_iff c).2 (by omega)
            clear a1 a2 a3 hsc
            go_wp2_with fail
            go_roundg g
            case measure => omega
            case rel =>
              have h := unhide HX
              exact ⟨k + 1, rfl, by omega, (unhide HGO) (unhide HOK), rfl⟩
      · have x1 : ¬ (s[k].toNat : Int) < 97 := by omega
        by_cases a2 : 122 < c
        · have x2 : (s[k].toNat : Int) > 122 := by omega
          have x3 : ¬ (s[k].toNat : Int) < 48 := by omega
          have x4 : (s[k].toNat : Int) > 57 := by omega
          have x5 : ((s[k].toNat : Int) != 95) = true := by rw [bne_iff_ne]; omega
          have e : R = false := (unhide HBAD) (not_ch (by omega))
          subst e
          clear a1 a2 hsc
          go_wp2_with fail
          go_ret
          exact ⟨rfl, rfl⟩
        · have x2 : ¬ (s[k].toNat : Int) > 122 := by omega
          have HOK : Hid (okCh c = true) := (ch_iff c).2 (by omega)
          clear a1 a2 hsc
          go_wp2_with fail
          go_roundg g
          case measure => omega
          case rel =>
            have h := unhide HX
            exact ⟨k + 1, rfl, by omega, (unhide HGO) (unhide HOK), rfl⟩
    · have j1 : ¬ (k : Int) < (s.size : Int) := by omega
      have e : R = true := (unhide HR).trans (name_yes (unhide HS).1 (unhide HS).2 (unhide HF) fun i hi => hall i (by omega))
      subst e
      clear hall hk hkn
      go_wp2_with fail
      go_ret
      exact ⟨rfl, rfl⟩
theorem league_in {c : Int} (h : true = inR c 0 15) : inR c 0 7 = decide (c < 8) := by
  have h := h.symm
  unfold inR at h ⊢
  rw [Bool.and_eq_true, decide_eq_true_eq, decide_eq_true_eq] at h
  by_cases h8 : c < 8
  · rw [decide_eq_true h8, decide_eq_true h.1, decide_eq_true (by omega)]; rfl
  · rw [decide_eq_false h8, decide_eq_false (by omega : ¬ c ≤ 7), Bool.and_false]
set_option maxRecDepth 100000 in
set_option maxHeartbeats 2000000 in
theorem rentrants_any (e : En) (w : World) (A : Option Addr) (n k : Nat) (hn : n = e.clubs.length) (hA : Sl w A e.clubs k) (hlim : e.rules.size ≤ 1000000) :
    Calls Tryz.prog 66 #[.agg #[.int .i64 e.s, .int .i64 e.c, .slice A n k, .string e.rules]] w fun x w' => x = .returned (.bool (okEnt e)) ∧ Below w.heap.size w w' := by
  obtain ⟨s, c, l, r⟩ := e
  dsimp only at hn hA hlim ⊢
  obtain ⟨R, hR⟩ : ∃ R, R = okEnt ⟨s, c, l, r⟩ := ⟨_, rfl⟩
  obtain ⟨b0, hb0⟩ : ∃ b, b = inR s 0 63 := ⟨_, rfl⟩
  obtain ⟨b1, hb1⟩ : ∃ b, b = inR c 0 15 := ⟨_, rfl⟩
  obtain ⟨b2, hb2⟩ : ∃ b, b = okClubs l := ⟨_, rfl⟩
  obtain ⟨b3, hb3⟩ : ∃ b, b = incr l := ⟨_, rfl⟩
  obtain ⟨b4, hb4⟩ : ∃ b, b = okName r := ⟨_, rfl⟩
  have HC0 := hide fun W => rseason_any s W
  have HC1 := hide fun W => rcomp_any c W
  have HC4 := hide fun W => rname_any r hlim W
  have HA := hide hA; have HN := hide hn
  rw [← hb0] at HC0
  rw [← hb1] at HC1
  rw [← hb4] at HC4
  have HR : Hid (R = (b0 && b1 && b2 && b3 && (if c < 8 then b4 else r.toList.isEmpty))) := by
    have : R = (b0 && b1 && b2 && b3 && (if c < 8 then b4 else r.toList.isEmpty)) := by
      rw [hR, hb0, hb1, hb2, hb3, hb4]; rfl
    exact this
  rw [← hR]
  have H2 := hide hb2; have H3 := hide hb3; have HB1 := hide hb1
  clear hR hb0 hb1 hb2 hb3 hb4 hA hn
  go_enter Tryz.func66, Tryz.ntmps66
  go_upto_region 1 with fail
  generalize hX1 : w.alloc _ = W1
  have hB1 : Below w.heap.size w W1 := hX1 ▸ (Below.refl _ _).alloc (Nat.le_refl _) _
  have HV := hide (boxedV w W1 [.int .i64 s, .int .i64 c, .slice A n k, .string r] 24 (by rw [← hX1]; rfl))
  have hc0 : W1.cell? ⟨w.heap.size, 0, none⟩ = some (.int .i64 s) := (unhide HV).cell rfl
  have hc1 : W1.cell? ⟨w.heap.size, 1, none⟩ = some (.int .i64 c) := (unhide HV).cell rfl
  have hc2 : W1.cell? ⟨w.heap.size, 2, none⟩ = some (.slice A n k) := (unhide HV).cell rfl
  have hc3 : W1.cell? ⟨w.heap.size, 3, none⟩ = some (.string r) := (unhide HV).cell rfl
  have HB := hide hB1
  clear hX1 hB1
  go_wp2_with fail
  refine ((unhide HC0) W1).mono ?_; rintro x W2 ⟨rfl, rfl⟩
  cases b0
  case false =>
    go_wp2_with fail
    go_ret
    exact ⟨by rw [unhide HR]; rfl, unhide HB⟩
  go_wp2_with fail
  refine ((unhide HC1) W2).mono ?_; rintro x W3 ⟨rfl, rfl⟩
  cases b1
  case false =>
    go_wp2_with fail
    go_ret
    exact ⟨by rw [unhide HR]; rfl, unhide HB⟩
  have HC2 := hide (rclubs_any W3 A n k l (unhide HN) ((unhide HA).keep (unhide HB)))
  rw [← unhide H2] at HC2
  go_wp2_with fail
  refine (unhide HC2).mono ?_; rintro x W4 ⟨rfl, rfl⟩
  cases b2
  case false =>
    go_wp2_with fail
    go_ret
    exact ⟨by rw [unhide HR]; rfl, unhide HB⟩
  have HC3 := hide (rincr_any W4 A n k l (unhide HN) ((unhide HA).keep (unhide HB)))
  rw [← unhide H3] at HC3
  go_wp2_with fail
  refine (unhide HC3).mono ?_; rintro x W5 ⟨rfl, hG⟩
  have hc1' : W5.cell? ⟨w.heap.size, 1, none⟩ = some (.int .i64 c) := (hG.cell (p := ⟨w.heap.size, 1, none⟩) (lt_of_cell hc1)).trans hc1
  have hc3' : W5.cell? ⟨w.heap.size, 3, none⟩ = some (.string r) := (hG.cell (p := ⟨w.heap.size, 3, none⟩) (lt_of_cell hc3)).trans hc3
  have HB5 := hide (thenB (unhide HB) hG)
  clear hc0 hc1 hc2 hc3 hG
  cases b3
  case false =>
    go_wp2_with fail
    go_ret
    exact ⟨by rw [unhide HR]; rfl, unhide HB5⟩
  by_cases h8 : c < 8
  · have e : R = b4 := by rw [unhide HR, if_pos h8]; rfl
    subst e
    have hl := decide_eq_true h8
    clear HR
    have HL := hide (rleague_any c W5)
    rw [league_in (unhide HB1), hl] at HL
    clear hl h8
    go_wp2_with fail
    refine (unhide HL).mono ?_; rintro x W6 ⟨rfl, rfl⟩
    go_wp2_with fail
    refine ((unhide HC4) W6).mono ?_; rintro x W7 ⟨rfl, rfl⟩
    go_wp2_with fail
    go_ret
    exact ⟨rfl, unhide HB5⟩
  · have e : R = r.toList.isEmpty := by rw [unhide HR, if_neg h8]; rfl
    subst e
    have hl := decide_eq_false h8
    clear HR
    have HL := hide (rleague_any c W5)
    rw [league_in (unhide HB1), hl] at HL
    clear hl h8
    go_wp2_with fail
    refine (unhide HL).mono ?_; rintro x W6 ⟨rfl, rfl⟩
    go_wp2_with fail
    go_ret
    exact ⟨by simp [beq_dec], unhide HB5⟩
theorem distinct_at : ∀ l : List Int, distinct l = true ↔ ∀ i, i < l.length → (l.take i).contains (l.getD i 0) = false := by
  intro l
  rw [distinct_iff, List.Nodup, List.pairwise_iff_getElem]
  constructor
  · intro h i hi
    cases e : (l.take i).contains (l.getD i 0)
    · rfl
    · obtain ⟨j, hj, hm⟩ := mem_getD (List.contains_iff_mem.1 e)
      rw [List.length_take] at hj
      have := h j i (by omega) hi (by omega)
      rw [List.getD_eq_getElem?_getD, List.getD_eq_getElem?_getD, List.getElem?_take, if_pos (by omega), List.getElem?_eq_getElem (by omega), List.getElem?_eq_getElem hi] at hm
      exact absurd hm this
  · intro h i j hi hj hij e
    have := h j hj
    rw [List.getD_eq_getElem?_getD, List.getElem?_eq_getElem hj, Option.getD_some, ← e] at this
    have h2 : (l.take j).contains l[i] = true := List.contains_iff_mem.2 (List.mem_take_iff_getElem.2 ⟨i, by omega, rfl⟩)
    rw [this] at h2
    cases h2
set_option maxRecDepth 100000 in
set_option maxHeartbeats 2000000 in
theorem rlot_any (s c : Int) (l : List Int) (A : Option Addr) (n cp : Nat) (hn : n = l.length) (w : World) (hA : Sl w A l cp) :
    Calls Tryz.prog 70 #[.agg #[.int .i64 s, .int .i64 c, .slice A n cp]] w fun x w' => x = .returned (.bool (okLot s c l)) ∧ Below w.heap.size w w' := by
  obtain ⟨R, hR⟩ : ∃ R, R = okLot s c l := ⟨_, rfl⟩
  rw [← hR]
  have HR := hide hR; have HA := hide hA
  have HN : Hid (n = l.length ∧ n ≤ 1000) := ⟨hn, by have := hA.few; omega⟩
  have kc : (n : Int) ≤ (cp : Int) := by have := hA.cap; omega
  clear hR hA hn
  go_enter Tryz.func70, Tryz.ntmps70
  go_upto_region 1 with fail
  generalize hX1 : w.alloc _ = W1
  have hB1 : Below w.heap.size w W1 := hX1 ▸ (Below.refl _ _).alloc (Nat.le_refl _) _
  have HV := hide (boxedV w W1 [.int .i64 s, .int .i64 c, .slice A n cp] 41 (by rw [← hX1]; rfl))
  have HB := hide hB1
  clear hX1 hB1
  go_wp2_with fail
  go_loopg [3] n (fun g y3 wx => ∃ k : Nat, y3 = .int .i64 (k : Int) ∧ g + k = n ∧ (∀ i, i < k → (l.take i).contains (l.getD i 0) = false) ∧ VsAt wx w.heap.size 41 [.int .i64 s, .int .i64 c, .slice A n cp] ∧ Below w.heap.size w wx)
  case atStart => exact ⟨0, rfl, by omega, fun i h => by omega, unhide HV, unhide HB⟩
  case round =>
    obtain ⟨k, rfl, hk, hall, hv, hb⟩ := hrel
    have HALL := hide hall
    have HV := hide hv; have HB := hide hb
    have hc2 : wr.cell? ⟨w.heap.size, 2, none⟩ = some (.slice A n cp) := hv.cell rfl
    by_cases hkn : k < n
    · obtain ⟨g, rfl⟩ : ∃ g, gk = g + 1 := ⟨gk - 1, by omega⟩
      have i1 : (k : Int) < (n : Int) := by omega
      have i0 : (0 : Int) ≤ (k : Int) := Int.natCast_nonneg _
      have i2 : (k : Int) ≤ (cp : Int) := by omega
      have wk : IntKind.i64.wrap ((k : Int) + 1) = ((k + 1 : Nat) : Int) := (IntWalk.i64_in _ (by have := unhide HN; omega)).trans (by omega)
      obtain ⟨b, o, rfl, hc⟩ := ((unhide HA).it.keep hb).at_ (fun e => by have := unhide HN; rw [e] at this; simp at this; omega)
      have h1 := hc k (by have := unhide HN; omega)
      obtain ⟨x, hx⟩ : ∃ x, x = l.getD k 0 := ⟨_, rfl⟩
      rw [← hx] at h1
      have hsl : Sl wr (some ⟨b, o, none⟩) (l.take k) cp := by
        have hA := (unhide HA).keep hb
        refine ⟨⟨fun _ => ⟨b, o, rfl, fun j hj => ?_⟩⟩, by rw [List.length_take]; have := unhide HN; omega, fun e => (by cases e), by rw [List.length_take]; have := unhide HN; omega⟩
        rw [List.length_take] at hj
        have := hc j (by omega)
        rw [this, List.getD_eq_getElem?_getD, List.getD_eq_getElem?_getD, List.getElem?_take, if_pos (by omega)]
      have HSL := hide hsl
      have HX : Hid (x = l.getD k 0 ∧ k < n ∧ g + 1 + k = n ∧ k = (l.take k).length) := ⟨hx, hkn, hk, by rw [List.length_take]; have := unhide HN; omega⟩
      have K1 := hide h1
      obtain ⟨z, hz⟩ : ∃ z, z = (l.take k).contains x := ⟨_, rfl⟩
      have HZ := hide hz
      obtain ⟨W, hW⟩ : ∃ W, W = wr.drewN 1 := ⟨_, rfl⟩
      have HW : Hid (W = wr.drewN 1) := hW
      have hS : Below wr.heap.size wr W := below_named HW
      have hcal := rmember_any W (some ⟨b, o, none⟩) k cp (l.take k) (unhide HX).2.2.2 ((unhide HSL).keep hS) x
      rw [← hz] at hcal
      have HC := hide hcal
      clear hc h1 hx hkn hk hall hb hv hW hsl hz hcal
      go_upto_region 4 with fail
      clear hc2
      refine held (S := Below wr.heap.size wr) W HW (by kernel_rfl) ?_
      refine wpAnyH_take (i := 0) (v := ?_) rfl (by kernel_rfl) (by kernel_rfl) (by kernel_rfl) (fun _ _ _ h => h) (Or.inl ⟨by kernel_rfl, ?_⟩) (by assumption) ?_
      rotate_left
      · intro Wt hSt
        go_simp
        try with_reducible rfl
      try simp only [List.getElem_toArray, List.getElem_cons_zero, List.getElem_cons_succ, Act.put, List.setIfInBounds_toArray, List.set_cons_zero, List.set_cons_succ]
      refine wpAnyH_take (i := 1) (v := ?_) rfl (by kernel_rfl) (by kernel_rfl) (by kernel_rfl) (fun _ _ _ h => h) (Or.inl ⟨by kernel_rfl, ?_⟩) (by assumption) ?_
      rotate_left
      · intro Wt hSt
        have hct := (show Wt.cell? ⟨w.heap.size, 2, none⟩ = some (.slice (some ⟨b, o, none⟩) n cp) from ((unhide HV).keep hSt).cell rfl)
        go_simp
        try with_reducible rfl
      try simp only [List.getElem_toArray, List.getElem_cons_zero, List.getElem_cons_succ, Act.put, List.setIfInBounds_toArray, List.set_cons_zero, List.set_cons_succ]
      refine wpAnyH_take (i := 2) (v := ?_) rfl (by kernel_rfl) (by kernel_rfl) (by kernel_rfl) (fun _ _ _ h => h) (Or.inl ⟨by kernel_rfl, ?_⟩) (by assumption) ?_
      rotate_left
      · intro Wt hSt
        go_simp
        try with_reducible rfl
      try simp only [List.getElem_toArray, List.getElem_cons_zero, List.getElem_cons_succ, Act.put, List.setIfInBounds_toArray, List.set_cons_zero, List.set_cons_succ]
      refine wpAnyH_take (i := 3) (v := ?_) rfl (by kernel_rfl) (by kernel_rfl) (by kernel_rfl) (fun _ _ _ h => h) (Or.inl ⟨by kernel_rfl, ?_⟩) (by assumption) ?_
      rotate_left
      · intro Wt hSt
        go_simp
        try with_reducible rfl
      try simp only [List.getElem_toArray, List.getElem_cons_zero, List.getElem_cons_succ, Act.put, List.setIfInBounds_toArray, List.set_cons_zero, List.set_cons_succ]
      refine wpAnyH_take (i := 4) (v := ?_) rfl (by kernel_rfl) (by kernel_rfl) (by kernel_rfl) (fun _ _ _ h => h) (Or.inl ⟨by kernel_rfl, ?_⟩) (by assumption) ?_
      rotate_left
      · intro Wt hSt
        go_simp
        try with_reducible rfl
      try simp only [List.getElem_toArray, List.getElem_cons_zero, List.getElem_cons_succ, Act.put, List.setIfInBounds_toArray, List.set_cons_zero, List.set_cons_succ]
      refine wpAnyH_take (i := 5) (v := ?_) rfl (by kernel_rfl) (by kernel_rfl) (by kernel_rfl) (fun _ _ _ h => h) (Or.inl ⟨by kernel_rfl, ?_⟩) (by assumption) ?_
      rotate_left
      · intro Wt hSt
        have hct := (show Wt.cell? ⟨w.heap.size, 2, none⟩ = some (.slice (some ⟨b, o, none⟩) n cp) from ((unhide HV).keep hSt).cell rfl)
        go_simp
        try with_reducible rfl
      try simp only [List.getElem_toArray, List.getElem_cons_zero, List.getElem_cons_succ, Act.put, List.setIfInBounds_toArray, List.set_cons_zero, List.set_cons_succ]
      refine wpAnyH_take (i := 6) (v := ?_) rfl (by kernel_rfl) (by kernel_rfl) (by kernel_rfl) (fun _ _ _ h => h) (Or.inl ⟨by kernel_rfl, ?_⟩) (by assumption) ?_
      rotate_left
      · intro Wt hSt
        go_simp
        try with_reducible rfl
      try simp only [List.getElem_toArray, List.getElem_cons_zero, List.getElem_cons_succ, Act.put, List.setIfInBounds_toArray, List.set_cons_zero, List.set_cons_succ]
      refine wpAnyH_take (i := 7) (v := ?_) rfl (by kernel_rfl) (by kernel_rfl) (by kernel_rfl) (fun _ _ _ h => h) (Or.inl ⟨by kernel_rfl, ?_⟩) (by assumption) ?_
      rotate_left
      · intro Wt hSt
        go_simp
        try with_reducible rfl
      try simp only [List.getElem_toArray, List.getElem_cons_zero, List.getElem_cons_succ, Act.put, List.setIfInBounds_toArray, List.set_cons_zero, List.set_cons_succ]
      refine wpAnyH_take (i := 8) (v := ?_) rfl (by kernel_rfl) (by kernel_rfl) (by kernel_rfl) (fun _ _ _ h => h) (Or.inl ⟨by kernel_rfl, ?_⟩) (by assumption) ?_
      rotate_left
      · intro Wt hSt
        have hct := (show Wt.cell? ⟨b, o + k, none⟩ = some (.int .i64 x) from (hSt.cell (p := ⟨b, o + k, none⟩) (lt_of_cell (unhide K1))).trans (unhide K1))
        go_simp
        try with_reducible rfl
      try simp only [List.getElem_toArray, List.getElem_cons_zero, List.getElem_cons_succ, Act.put, List.setIfInBounds_toArray, List.set_cons_zero, List.set_cons_succ]
      refine wpAnyH_one 9 _ rfl (by kernel_rfl) (by kernel_rfl) ?_
      skip
      intro Kt hK
      go_simp
      refine (unhide HC).mono ?_; rintro e W2 ⟨rfl, rfl⟩
      dsimp only
      refine hK _ _ hS ?_
      clear hK Kt
      try simp only [List.getElem_toArray, List.getElem_cons_zero, List.getElem_cons_succ, Act.put, List.setIfInBounds_toArray, List.set_cons_zero, List.set_cons_succ]
      refine wpAnyH_chainOf [] _ _ _ (by kernel_rfl) (by kernel_rfl) ?_
      refine wpChain_nil ?_
      have HS := hide (thenB (unhide HB) hS)
      have HV2 := hide ((unhide HV).keep hS)
      clear hS
      cases z
      case true =>
        have e : R = false := by
          rw [unhide HR]
          have h : distinct l = false := by
            cases e : distinct l
            · rfl
            · have hp := (distinct_iff l).1 e
              have hx := unhide HX
              have := (distinct_at l).1 e k (by have := unhide HN; omega)
              rw [← hx.1, ← unhide HZ] at this
              cases this
          unfold okLot
          rw [h, Bool.and_false]
        subst e
        go_wp2_with fail
        go_ret
        exact ⟨rfl, unhide HS⟩
      go_wp2_with fail
      go_roundg g
      case measure => omega
      case rel =>
        have h := unhide HX
        refine ⟨k + 1, rfl, by omega, fun i h1 => ?_, unhide HV2, unhide HS⟩
        by_cases hi : i < k
        · exact (unhide HALL) i hi
        · obtain rfl : i = k := by omega
          rw [← h.1, ← unhide HZ]
    · have i1 : ¬ (k : Int) < (n : Int) := by omega
      have HD : Hid (distinct l = true) := (distinct_at l).2 fun i hi => hall i (by have := unhide HN; omega)
      obtain ⟨b0, hb0⟩ : ∃ b, b = inR s 0 63 := ⟨_, rfl⟩
      obtain ⟨b1, hb1⟩ : ∃ b, b = inR c 0 15 := ⟨_, rfl⟩
      obtain ⟨b2, hb2⟩ : ∃ b, b = okClubs l := ⟨_, rfl⟩
      have HRR : Hid (R = (b0 && b1 && b2)) := by
        have : R = (b0 && b1 && b2) := by
          rw [unhide HR]
          unfold okLot
          rw [unhide HD, hb0, hb1, hb2, Bool.and_true]
        exact this
      have HC0 := hide (rseason_any s wr); have HC1 := hide (rcomp_any c wr); have HC2 := hide (rclubs_any wr A n cp l (unhide HN).1 ((unhide HA).keep hb))
      rw [← hb0] at HC0
      rw [← hb1] at HC1
      rw [← hb2] at HC2
      have hc0 : wr.cell? ⟨w.heap.size, 0, none⟩ = some (.int .i64 s) := hv.cell rfl
      have hc1 : wr.cell? ⟨w.heap.size, 1, none⟩ = some (.int .i64 c) := hv.cell rfl
      clear hall hb hk hkn hv hb0 hb1 hb2
      go_wp2_with fail
      refine (unhide HC0).mono ?_; rintro x W2 ⟨rfl, rfl⟩
      cases b0
      case false =>
        go_wp2_with fail
        go_ret
        exact ⟨by rw [unhide HRR]; rfl, unhide HB⟩
      go_wp2_with fail
      refine (unhide HC1).mono ?_; rintro x W2 ⟨rfl, rfl⟩
      cases b1
      case false =>
        go_wp2_with fail
        go_ret
        exact ⟨by rw [unhide HRR]; rfl, unhide HB⟩
      go_wp2_with fail
      refine (unhide HC2).mono ?_; rintro x W2 ⟨rfl, rfl⟩
      go_wp2_with fail
      go_ret
      exact ⟨by rw [unhide HRR]; rfl, unhide HB⟩
end Go.Proofs.YtdmaopfaeigelaaGreatDoor
