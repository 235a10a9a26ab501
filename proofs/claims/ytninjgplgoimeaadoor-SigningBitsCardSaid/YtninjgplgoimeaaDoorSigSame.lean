/- Two lists of bits are compared. -/
import Derived.Test.YtninjgplgoimeaaDoorSigSane
namespace Go.Proofs.YtninjgplgoimeaaDoor
set_option linter.unusedSimpArgs false
set_option linter.unusedVariables false
open Go.RowKit

theorem take_next {l k : List Bool} {j : Nat} {x : Bool} (h : l.take j = k.take j) (hl : l[j]? = some x) (hk : k[j]? = some x) : l.take (j + 1) = k.take (j + 1) := by
  rw [List.take_add_one, List.take_add_one, h, hl, hk]
set_option maxRecDepth 100000 in
set_option maxHeartbeats 4000000 in
theorem same4_any (w : World) (n : Nat) (hn : n ≤ 1000) (A1 : Option Addr) (c1 : Nat) (l1 : List Bool) (h1 : l1.length = n) (hc1 : n ≤ c1) (hb1 : Bl w A1 l1) (A2 : Option Addr) (c2 : Nat) (l2 : List Bool) (h2 : l2.length = n) (hc2 : n ≤ c2) (hb2 : Bl w A2 l2) (h0 : 0 < n) :
    Calls Tryd.prog 30 #[.slice A1 n c1, .slice A2 n c2] w fun x w' => x = .returned (.bool (decide (l1 = l2))) ∧ Below w.heap.size w w' := by
  obtain ⟨b1, o1, rfl, hr1⟩ := hb1 (fun e => by rw [e] at h1; simp at h1; omega)
  obtain ⟨b2, o2, rfl, hr2⟩ := hb2 (fun e => by rw [e] at h2; simp at h2; omega)
  obtain ⟨R, hR⟩ : ∃ R, R = decide (l1 = l2) := ⟨_, rfl⟩
  rw [← hR]
  have HR := hide hR; have HR1 := hide hr1; have HR2 := hide hr2
  have HN : Hid (l1.length = n ∧ l2.length = n ∧ n ≤ 1000) := ⟨h1, h2, hn⟩
  have k1 : (n : Int) ≤ (c1 : Int) := by omega
  have k2 : (n : Int) ≤ (c2 : Int) := by omega
  clear hR hr1 hr2 h1 h2 hn hc1 hc2 hb1 hb2 h0
  go_enter Tryd.func30, Tryd.ntmps30
  go_wp2_with fail
  go_loopg [5] n (fun g y5 wx => ∃ j : Nat, g + j = n ∧ y5 = .int .i64 (j : Int) ∧ l1.take j = l2.take j ∧ Below w.heap.size w wx)
  case atStart => exact ⟨0, rfl, rfl, rfl, Below.refl _ _⟩
  case round =>
    obtain ⟨j, hj, rfl, ht, hb⟩ := hrel
    cases gk with
    | zero =>
      obtain rfl : j = n := by omega
      rw [List.take_of_length_le (Nat.le_of_eq (unhide HN).1), List.take_of_length_le (Nat.le_of_eq (unhide HN).2.1)] at ht
      have hRt : R = true := by rw [unhide HR]; exact decide_eq_true ht
      have HB := hide hb; have HRT := hide hRt
      clear ht hb hj hRt
      go_wp2_with fail
      go_ret
      exact ⟨by rw [unhide HRT]; rfl, unhide HB⟩
    | succ g =>
      have j1 : (j : Int) < (n : Int) := by omega
      have j0 : (0 : Int) ≤ (j : Int) := Int.natCast_nonneg _
      have jM : (j : Int) ≤ 1000 := by have := unhide HN; omega
      obtain ⟨x1, hx1⟩ : ∃ x, l1[j]? = some x := ⟨_, List.getElem?_eq_getElem (by have := unhide HN; omega)⟩
      obtain ⟨x2, hx2⟩ : ∃ x, l2[j]? = some x := ⟨_, List.getElem?_eq_getElem (by have := unhide HN; omega)⟩
      have d1 := (unhide HR1) j x1 hx1
      have d2 := (unhide HR2) j x2 hx2
      have HD := hide (And.intro d1 d2)
      have HX := hide (And.intro hx1 hx2); have HB := hide hb; have HTK := hide ht; have HJ := hide hj
      clear d1 d2 hx1 hx2 hb ht hj
      go_wp2_with fail
      obtain ⟨W, hW⟩ : ∃ W, W = wr.drewN 1 := ⟨_, rfl⟩
      have HW : Hid (W = wr.drewN 1) := hW
      have hS : Below w.heap.size w W := thenB (unhide HB) (below_named HW)
      clear hW
      refine held (S := Below w.heap.size w) W HW (by kernel_rfl) ?_
      refine wpAnyH_take (i := 0) (v := ?_) rfl (by kernel_rfl) (by kernel_rfl) (by kernel_rfl) (fun _ _ _ h => h) (Or.inl ⟨by kernel_rfl, ?_⟩) (by assumption) ?_
      rotate_left
      · intro Wt hSt
        go_simp
        try with_reducible rfl
      try simp only [List.getElem_toArray, List.getElem_cons_zero, List.getElem_cons_succ, Act.put, List.setIfInBounds_toArray, List.set_cons_zero, List.set_cons_succ]
      refine wpAnyH_take (i := 1) (v := ?_) rfl (by kernel_rfl) (by kernel_rfl) (by kernel_rfl) (fun _ _ _ h => h) (Or.inl ⟨by kernel_rfl, ?_⟩) (by assumption) ?_
      rotate_left
      · intro Wt hSt
        go_simp
        try with_reducible rfl
      try simp only [List.getElem_toArray, List.getElem_cons_zero, List.getElem_cons_succ, Act.put, List.setIfInBounds_toArray, List.set_cons_zero, List.set_cons_succ]
      refine wpAnyH_take (i := 2) (v := ?_) rfl (by kernel_rfl) (by kernel_rfl) (by kernel_rfl) (fun _ _ _ h => h) (Or.inl ⟨by kernel_rfl, ?_⟩) (by assumption) ?_
      rotate_left
      · intro Wt hSt
        go_simp
        try with_reducible rfl
      try simp only [List.getElem_toArray, List.getElem_cons_zero, List.getElem_cons_succ, Act.put, List.setIfInBounds_toArray, List.set_cons_zero, List.set_cons_succ]
      refine wpAnyH_take (i := 3) (v := ?_) rfl (by kernel_rfl) (by kernel_rfl) (by kernel_rfl) (fun _ _ _ h => h) (Or.inl ⟨by kernel_rfl, ?_⟩) (by assumption) ?_
      rotate_left
      · intro Wt hSt
        have hct := (show Wt.cell? ⟨b1, o1 + j, none⟩ = some (.bool x1) from (hSt.cell (p := ⟨b1, o1 + j, none⟩) (lt_of_cell (unhide HD).1)).trans (unhide HD).1)
        go_simp
        try with_reducible rfl
      try simp only [List.getElem_toArray, List.getElem_cons_zero, List.getElem_cons_succ, Act.put, List.setIfInBounds_toArray, List.set_cons_zero, List.set_cons_succ]
      refine wpAnyH_take (i := 4) (v := ?_) rfl (by kernel_rfl) (by kernel_rfl) (by kernel_rfl) (fun _ _ _ h => h) (Or.inl ⟨by kernel_rfl, ?_⟩) (by assumption) ?_
      rotate_left
      · intro Wt hSt
        go_simp
        try with_reducible rfl
      try simp only [List.getElem_toArray, List.getElem_cons_zero, List.getElem_cons_succ, Act.put, List.setIfInBounds_toArray, List.set_cons_zero, List.set_cons_succ]
      refine wpAnyH_take (i := 5) (v := ?_) rfl (by kernel_rfl) (by kernel_rfl) (by kernel_rfl) (fun _ _ _ h => h) (Or.inl ⟨by kernel_rfl, ?_⟩) (by assumption) ?_
      rotate_left
      · intro Wt hSt
        go_simp
        try with_reducible rfl
      try simp only [List.getElem_toArray, List.getElem_cons_zero, List.getElem_cons_succ, Act.put, List.setIfInBounds_toArray, List.set_cons_zero, List.set_cons_succ]
      refine wpAnyH_take (i := 6) (v := ?_) rfl (by kernel_rfl) (by kernel_rfl) (by kernel_rfl) (fun _ _ _ h => h) (Or.inl ⟨by kernel_rfl, ?_⟩) (by assumption) ?_
      rotate_left
      · intro Wt hSt
        go_simp
        try with_reducible rfl
      try simp only [List.getElem_toArray, List.getElem_cons_zero, List.getElem_cons_succ, Act.put, List.setIfInBounds_toArray, List.set_cons_zero, List.set_cons_succ]
      refine wpAnyH_take (i := 7) (v := ?_) rfl (by kernel_rfl) (by kernel_rfl) (by kernel_rfl) (fun _ _ _ h => h) (Or.inl ⟨by kernel_rfl, ?_⟩) (by assumption) ?_
      rotate_left
      · intro Wt hSt
        have hct := (show Wt.cell? ⟨b2, o2 + j, none⟩ = some (.bool x2) from (hSt.cell (p := ⟨b2, o2 + j, none⟩) (lt_of_cell (unhide HD).2)).trans (unhide HD).2)
        go_simp
        try with_reducible rfl
      try simp only [List.getElem_toArray, List.getElem_cons_zero, List.getElem_cons_succ, Act.put, List.setIfInBounds_toArray, List.set_cons_zero, List.set_cons_succ]
      refine wpAnyH_take (i := 8) (v := ?_) rfl (by kernel_rfl) (by kernel_rfl) (by kernel_rfl) (fun _ _ _ h => h) (Or.inl ⟨by kernel_rfl, ?_⟩) (by assumption) ?_
      rotate_left
      · intro Wt hSt
        go_simp
        try with_reducible rfl
      try simp only [List.getElem_toArray, List.getElem_cons_zero, List.getElem_cons_succ, Act.put, List.setIfInBounds_toArray, List.set_cons_zero, List.set_cons_succ]
      refine wpAnyH_chainOf [] _ _ _ (by kernel_rfl) (by kernel_rfl) ?_
      refine wpChain_nil ?_
      have HS := hide hS
      clear hS
      by_cases hxx : x1 = x2
      · subst hxx
        have HTN := hide (take_next (unhide HTK) (unhide HX).1 (unhide HX).2)
        cases x1
        all_goals
          go_wp2_with fail
          go_roundg g
          case measure => omega
          case rel => exact ⟨j + 1, by have := unhide HJ; omega, by push_cast; rfl, unhide HTN, unhide HS⟩
      · have hRf : R = false := by
          rw [unhide HR]
          refine decide_eq_false fun e => hxx ?_
          have h := (unhide HX).1
          rw [e, (unhide HX).2] at h
          injection h with h
          exact h.symm
        have HRF := hide hRf
        clear hRf
        cases x1 <;> cases x2
        · exact absurd rfl hxx
        · go_wp2_with fail
          go_ret
          exact ⟨by rw [unhide HRF]; rfl, unhide HS⟩
        · go_wp2_with fail
          go_ret
          exact ⟨by rw [unhide HRF]; rfl, unhide HS⟩
        · exact absurd rfl hxx
end Go.Proofs.YtninjgplgoimeaaDoor
