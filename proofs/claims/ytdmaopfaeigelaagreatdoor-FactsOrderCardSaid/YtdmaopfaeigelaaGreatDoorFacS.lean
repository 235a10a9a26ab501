/- Contracts over the program of facts: lists of numbers and of cards compared. -/
import Derived.Test.YtdmaopfaeigelaaGreatDoorFacABC
namespace Go.Proofs.YtdmaopfaeigelaaGreatDoor
set_option linter.unusedSimpArgs false
set_option linter.unusedVariables false
open Go.RowKit

theorem list_ext_getD {α : Type} (l k : List α) (d : α) (h : l.length = k.length) (H : ∀ i, i < l.length → l.getD i d = k.getD i d) : l = k := by
  apply List.ext_getElem h
  intro i h1 h2
  have := H i h1
  rwa [List.getD_eq_getElem?_getD, List.getD_eq_getElem?_getD, List.getElem?_eq_getElem h1, List.getElem?_eq_getElem h2] at this
def cdEq (x y : Cd) : Bool := decide (x.p = y.p) && (x.red == y.red)
theorem cdEq_iff (x y : Cd) : cdEq x y = true ↔ x = y := by
  obtain ⟨p, r⟩ := x
  obtain ⟨q, s⟩ := y
  simp [cdEq]
def cdsEq : List Cd → List Cd → Bool
  | [], [] => true
  | x :: l, y :: k => cdEq x y && cdsEq l k
  | _, _ => false
theorem cdsEq_iff : ∀ l k : List Cd, cdsEq l k = true ↔ l = k
  | [], [] => by simp [cdsEq]
  | x :: l, y :: k => by simp [cdsEq, cdEq_iff, cdsEq_iff l k]
  | [], y :: k => by simp [cdsEq]
  | x :: l, [] => by simp [cdsEq]
theorem bool_of_iff {b : Bool} {p : Prop} (h : b = true ↔ p) (hp : p) : b = true := h.2 hp
theorem bool_of_not {b : Bool} {p : Prop} (h : b = true ↔ p) (hp : ¬ p) : b = false := by
  cases b
  · rfl
  · exact absurd (h.1 rfl) hp
def d0 : Cd := ⟨0, false⟩
set_option maxRecDepth 100000 in
set_option maxHeartbeats 1000000 in
theorem eqInts_any (w : World) (A1 : Option Addr) (n1 c1 : Nat) (l1 : List Int) (e1 : n1 = l1.length) (s1 : Sl w A1 l1 c1) (A2 : Option Addr) (n2 c2 : Nat) (l2 : List Int) (e2 : n2 = l2.length) (s2 : Sl w A2 l2 c2) :
    Calls Tryz.prog 100 #[.slice A1 n1 c1, .slice A2 n2 c2] w fun x w' => x = .returned (.bool (decide (l1 = l2))) ∧ Below w.heap.size w w' := by
  obtain ⟨R, hR⟩ : ∃ R, R = decide (l1 = l2) := ⟨_, rfl⟩
  rw [← hR]
  have HR := hide hR
  have hiff : R = true ↔ l1 = l2 := by rw [hR]; exact decide_eq_true_iff
  have HI := hide hiff
  clear hR hiff
  by_cases hn : n1 = n2
  case neg =>
    have e : R = false := bool_of_not (unhide HI) (fun h => hn (by rw [e1, e2, h]))
    subst e
    have hb : ((n1 : Int) != (n2 : Int)) = true := by rw [bne_iff_ne]; omega
    clear e1 e2 s1 s2 hn
    go_enter Tryz.func100, Tryz.ntmps100
    go_wp2_with fail
    go_ret
    exact ⟨rfl, Below.refl _ _⟩
  obtain ⟨n, hnn⟩ : ∃ n, n = n1 := ⟨_, rfl⟩
  subst hn
  subst hnn
  have H1 := hide s1; have H2 := hide s2
  have HN : Hid (n = l1.length ∧ n = l2.length ∧ n ≤ 1000) := ⟨e1, e2, by have := s1.few; omega⟩
  have kc1 : (n : Int) ≤ (c1 : Int) := by have := s1.cap; omega
  have kc2 : (n : Int) ≤ (c2 : Int) := by have := s2.cap; omega
  have hb : ((n : Int) != (n : Int)) = false := by simp
  clear e1 e2 s1 s2
  go_enter Tryz.func100, Tryz.ntmps100
  go_wp2_with fail
  go_loopg [13] n (fun g y13 wx => ∃ k : Nat, y13 = .int .i64 (k : Int) ∧ g + k = n ∧ (∀ i, i < k → l1.getD i 0 = l2.getD i 0) ∧ Below w.heap.size w wx)
  case atStart => exact ⟨0, rfl, by omega, fun i h1 => by omega, Below.refl _ _⟩
  case round =>
    obtain ⟨k, rfl, hk, hall, hbw⟩ := hrel
    have HB := hide hbw
    have HALL := hide hall
    by_cases hkn : k < n
    · obtain ⟨g, rfl⟩ : ∃ g, gk = g + 1 := ⟨gk - 1, by omega⟩
      have i1 : (k : Int) < (n : Int) := by omega
      have i0 : (0 : Int) ≤ (k : Int) := Int.natCast_nonneg _
      have wk : IntKind.i64.wrap ((k : Int) + 1) = ((k + 1 : Nat) : Int) := (IntWalk.i64_in _ (by have := unhide HN; omega)).trans (by omega)
      obtain ⟨b, o, rfl, hc⟩ := ((unhide H1).it.keep hbw).at_ (fun e => by have := unhide HN; rw [e] at this; simp at this; omega)
      obtain ⟨b', o', rfl, hc'⟩ := ((unhide H2).it.keep hbw).at_ (fun e => by have := unhide HN; rw [e] at this; simp at this; omega)
      have h1 := hc k (by have := unhide HN; omega)
      have h2 := hc' k (by have := unhide HN; omega)
      obtain ⟨x, hx⟩ : ∃ x, x = l1.getD k 0 := ⟨_, rfl⟩
      obtain ⟨y, hy⟩ : ∃ x, x = l2.getD k 0 := ⟨_, rfl⟩
      rw [← hx] at h1
      rw [← hy] at h2
      have HX : Hid (x = l1.getD k 0 ∧ y = l2.getD k 0 ∧ k < n ∧ g + 1 + k = n) := ⟨hx, hy, hkn, hk⟩
      have K1 := hide h1; have K2 := hide h2
      obtain ⟨W, hW⟩ : ∃ W, W = wr.drewN 1 := ⟨_, rfl⟩
      have HW : Hid (W = wr.drewN 1) := hW
      have hS : Below wr.heap.size wr W := below_named HW
      clear hc hc' h1 h2 hx hy hkn hk hall hbw hW
      go_upto_region 6 with fail
      refine held (S := Below wr.heap.size wr) W HW (by kernel_rfl) ?_
      refine wpAnyH_take (i := 0) (v := ?_) rfl (by kernel_rfl) (by kernel_rfl) (by kernel_rfl) (fun _ _ _ h => h) (Or.inl ⟨by kernel_rfl, ?_⟩) (by assumption) ?_
      rotate_left
      · intro Wt hSt
        go_simp
        try with_reducible rfl
      try simp only [List.getElem_toArray, List.getElem_cons_zero, List.getElem_cons_succ, Act.put, List.setIfInBounds_toArray, List.set_cons_zero, List.set_cons_succ]
      refine wpAnyH_take (i := 1) (v := ?_) rfl (by kernel_rfl) (by kernel_rfl) (by kernel_rfl) (fun _ _ _ h => h) (Or.inl ⟨by kernel_rfl, ?_⟩) (by assumption) ?_
      rotate_left
      · intro Wt hSt
        go_simp
        try with_reducible rfl
      try simp only [List.getElem_toArray, List.getElem_cons_zero, List.getElem_cons_succ, Act.put, List.setIfInBounds_toArray, List.set_cons_zero, List.set_cons_succ]
      refine wpAnyH_take (i := 2) (v := ?_) rfl (by kernel_rfl) (by kernel_rfl) (by kernel_rfl) (fun _ _ _ h => h) (Or.inl ⟨by kernel_rfl, ?_⟩) (by assumption) ?_
      rotate_left
      · intro Wt hSt
        go_simp
        try with_reducible rfl
      try simp only [List.getElem_toArray, List.getElem_cons_zero, List.getElem_cons_succ, Act.put, List.setIfInBounds_toArray, List.set_cons_zero, List.set_cons_succ]
      refine wpAnyH_take (i := 3) (v := ?_) rfl (by kernel_rfl) (by kernel_rfl) (by kernel_rfl) (fun _ _ _ h => h) (Or.inl ⟨by kernel_rfl, ?_⟩) (by assumption) ?_
      rotate_left
      · intro Wt hSt
        have hct := (show Wt.cell? ⟨b, o + k, none⟩ = some (.int .i64 x) from (hSt.cell (p := ⟨b, o + k, none⟩) (lt_of_cell (unhide K1))).trans (unhide K1))
        go_simp
        try with_reducible rfl
      try simp only [List.getElem_toArray, List.getElem_cons_zero, List.getElem_cons_succ, Act.put, List.setIfInBounds_toArray, List.set_cons_zero, List.set_cons_succ]
      refine wpAnyH_take (i := 4) (v := ?_) rfl (by kernel_rfl) (by kernel_rfl) (by kernel_rfl) (fun _ _ _ h => h) (Or.inl ⟨by kernel_rfl, ?_⟩) (by assumption) ?_
      rotate_left
      · intro Wt hSt
        go_simp
        try with_reducible rfl
      try simp only [List.getElem_toArray, List.getElem_cons_zero, List.getElem_cons_succ, Act.put, List.setIfInBounds_toArray, List.set_cons_zero, List.set_cons_succ]
      refine wpAnyH_take (i := 5) (v := ?_) rfl (by kernel_rfl) (by kernel_rfl) (by kernel_rfl) (fun _ _ _ h => h) (Or.inl ⟨by kernel_rfl, ?_⟩) (by assumption) ?_
      rotate_left
      · intro Wt hSt
        go_simp
        try with_reducible rfl
      try simp only [List.getElem_toArray, List.getElem_cons_zero, List.getElem_cons_succ, Act.put, List.setIfInBounds_toArray, List.set_cons_zero, List.set_cons_succ]
      refine wpAnyH_take (i := 6) (v := ?_) rfl (by kernel_rfl) (by kernel_rfl) (by kernel_rfl) (fun _ _ _ h => h) (Or.inl ⟨by kernel_rfl, ?_⟩) (by assumption) ?_
      rotate_left
      · intro Wt hSt
        go_simp
        try with_reducible rfl
      try simp only [List.getElem_toArray, List.getElem_cons_zero, List.getElem_cons_succ, Act.put, List.setIfInBounds_toArray, List.set_cons_zero, List.set_cons_succ]
      refine wpAnyH_take (i := 7) (v := ?_) rfl (by kernel_rfl) (by kernel_rfl) (by kernel_rfl) (fun _ _ _ h => h) (Or.inl ⟨by kernel_rfl, ?_⟩) (by assumption) ?_
      rotate_left
      · intro Wt hSt
        have hct := (show Wt.cell? ⟨b', o' + k, none⟩ = some (.int .i64 y) from (hSt.cell (p := ⟨b', o' + k, none⟩) (lt_of_cell (unhide K2))).trans (unhide K2))
        go_simp
        try with_reducible rfl
      try simp only [List.getElem_toArray, List.getElem_cons_zero, List.getElem_cons_succ, Act.put, List.setIfInBounds_toArray, List.set_cons_zero, List.set_cons_succ]
      refine wpAnyH_take (i := 8) (v := ?_) rfl (by kernel_rfl) (by kernel_rfl) (by kernel_rfl) (fun _ _ _ h => h) (Or.inl ⟨by kernel_rfl, ?_⟩) (by assumption) ?_
      rotate_left
      · intro Wt hSt
        go_simp
        try with_reducible rfl
      try simp only [List.getElem_toArray, List.getElem_cons_zero, List.getElem_cons_succ, Act.put, List.setIfInBounds_toArray, List.set_cons_zero, List.set_cons_succ]
      refine wpAnyH_chainOf [] _ _ _ (by kernel_rfl) (by kernel_rfl) ?_
      refine wpChain_nil ?_
      have HS := hide (thenB (unhide HB) hS)
      clear hS
      by_cases hxy : x = y
      · have HXY : Hid (x = y) := hxy
        subst hxy
        have hf : (x != x) = false := by simp
        go_wp2_with fail
        go_roundg g
        case measure => omega
        case rel =>
          have h := unhide HX
          refine ⟨k + 1, rfl, by omega, fun i h1 => ?_, unhide HS⟩
          by_cases hi : i < k
          · exact (unhide HALL) i hi
          · obtain rfl : i = k := by omega
            rw [← h.1, ← h.2.1]
      · have e : R = false := bool_of_not (unhide HI) (fun h => hxy (by
          have hx := unhide HX
          rw [h, ← hx.2.1] at hx
          exact hx.1))
        subst e
        have hf : (x != y) = true := by rw [bne_iff_ne]; exact hxy
        go_wp2_with fail
        go_ret
        exact ⟨rfl, unhide HS⟩
    · have i1 : ¬ (k : Int) < (n : Int) := by omega
      have e : R = true := (unhide HI).2 (list_ext_getD l1 l2 0 (by have := unhide HN; omega) fun i h => hall i (by have := unhide HN; omega))
      subst e
      clear hall hbw hk hkn
      go_wp2_with fail
      go_ret
      exact ⟨rfl, unhide HB⟩
set_option maxRecDepth 100000 in
set_option maxHeartbeats 1000000 in
theorem eqCards_any (w : World) (A1 : Option Addr) (n1 c1 : Nat) (l1 : List Cd) (e1 : n1 = l1.length) (s1 : Sc w A1 l1 c1) (A2 : Option Addr) (n2 c2 : Nat) (l2 : List Cd) (e2 : n2 = l2.length) (s2 : Sc w A2 l2 c2) :
    Calls Tryz.prog 101 #[.slice A1 n1 c1, .slice A2 n2 c2] w fun x w' => x = .returned (.bool (cdsEq l1 l2)) ∧ Below w.heap.size w w' := by
  obtain ⟨R, hR⟩ : ∃ R, R = cdsEq l1 l2 := ⟨_, rfl⟩
  rw [← hR]
  have HR := hide hR
  have hiff : R = true ↔ l1 = l2 := by rw [hR]; exact cdsEq_iff _ _
  have HI := hide hiff
  clear hR hiff
  by_cases hn : n1 = n2
  case neg =>
    have e : R = false := bool_of_not (unhide HI) (fun h => hn (by rw [e1, e2, h]))
    subst e
    have hb : ((n1 : Int) != (n2 : Int)) = true := by rw [bne_iff_ne]; omega
    clear e1 e2 s1 s2 hn
    go_enter Tryz.func101, Tryz.ntmps101
    go_wp2_with fail
    go_ret
    exact ⟨rfl, Below.refl _ _⟩
  obtain ⟨n, hnn⟩ : ∃ n, n = n1 := ⟨_, rfl⟩
  subst hn
  subst hnn
  have H1 := hide s1; have H2 := hide s2
  have HN : Hid (n = l1.length ∧ n = l2.length ∧ n ≤ 1000) := ⟨e1, e2, by have := s1.few; omega⟩
  have kc1 : (n : Int) ≤ (c1 : Int) := by have := s1.cap; omega
  have kc2 : (n : Int) ≤ (c2 : Int) := by have := s2.cap; omega
  have hb : ((n : Int) != (n : Int)) = false := by simp
  clear e1 e2 s1 s2
  go_enter Tryz.func101, Tryz.ntmps101
  go_wp2_with fail
  go_loopg [13] n (fun g y13 wx => ∃ k : Nat, y13 = .int .i64 (k : Int) ∧ g + k = n ∧ (∀ i, i < k → l1.getD i d0 = l2.getD i d0) ∧ Below w.heap.size w wx)
  case atStart => exact ⟨0, rfl, by omega, fun i h1 => by omega, Below.refl _ _⟩
  case round =>
    obtain ⟨k, rfl, hk, hall, hbw⟩ := hrel
    have HB := hide hbw
    have HALL := hide hall
    by_cases hkn : k < n
    · obtain ⟨g, rfl⟩ : ∃ g, gk = g + 1 := ⟨gk - 1, by omega⟩
      have i1 : (k : Int) < (n : Int) := by omega
      have i0 : (0 : Int) ≤ (k : Int) := Int.natCast_nonneg _
      have wk : IntKind.i64.wrap ((k : Int) + 1) = ((k + 1 : Nat) : Int) := (IntWalk.i64_in _ (by have := unhide HN; omega)).trans (by omega)
      obtain ⟨b, o, rfl, hc⟩ := ((unhide H1).it.keep hbw).at_ (fun e => by have := unhide HN; rw [e] at this; simp at this; omega)
      obtain ⟨b', o', rfl, hc'⟩ := ((unhide H2).it.keep hbw).at_ (fun e => by have := unhide HN; rw [e] at this; simp at this; omega)
      obtain ⟨x, hx⟩ : ∃ x, x = l1.getD k d0 := ⟨_, rfl⟩
      obtain ⟨y, hy⟩ : ∃ x, x = l2.getD k d0 := ⟨_, rfl⟩
      have h1 := hc k x (by rw [hx, List.getD_eq_getElem?_getD, List.getElem?_eq_getElem (by have := unhide HN; omega)]; rfl)
      have h2 := hc' k y (by rw [hy, List.getD_eq_getElem?_getD, List.getElem?_eq_getElem (by have := unhide HN; omega)]; rfl)
      have HX : Hid (x = l1.getD k d0 ∧ y = l2.getD k d0 ∧ k < n ∧ g + 1 + k = n) := ⟨hx, hy, hkn, hk⟩
      have K1 := hide h1; have K2 := hide h2
      obtain ⟨W, hW⟩ : ∃ W, W = wr.drewN 1 := ⟨_, rfl⟩
      have HW : Hid (W = wr.drewN 1) := hW
      have hS : Below wr.heap.size wr W := below_named HW
      clear hc hc' h1 h2 hx hy hkn hk hall hbw hW
      go_upto_region 6 with fail
      refine held (S := Below wr.heap.size wr) W HW (by kernel_rfl) ?_
      refine wpAnyH_take (i := 0) (v := ?_) rfl (by kernel_rfl) (by kernel_rfl) (by kernel_rfl) (fun _ _ _ h => h) (Or.inl ⟨by kernel_rfl, ?_⟩) (by assumption) ?_
      rotate_left
      · intro Wt hSt
        go_simp
        try with_reducible rfl
      try simp only [List.getElem_toArray, List.getElem_cons_zero, List.getElem_cons_succ, Act.put, List.setIfInBounds_toArray, List.set_cons_zero, List.set_cons_succ]
      refine wpAnyH_take (i := 1) (v := ?_) rfl (by kernel_rfl) (by kernel_rfl) (by kernel_rfl) (fun _ _ _ h => h) (Or.inl ⟨by kernel_rfl, ?_⟩) (by assumption) ?_
      rotate_left
      · intro Wt hSt
        go_simp
        try with_reducible rfl
      try simp only [List.getElem_toArray, List.getElem_cons_zero, List.getElem_cons_succ, Act.put, List.setIfInBounds_toArray, List.set_cons_zero, List.set_cons_succ]
      refine wpAnyH_take (i := 2) (v := ?_) rfl (by kernel_rfl) (by kernel_rfl) (by kernel_rfl) (fun _ _ _ h => h) (Or.inl ⟨by kernel_rfl, ?_⟩) (by assumption) ?_
      rotate_left
      · intro Wt hSt
        go_simp
        try with_reducible rfl
      try simp only [List.getElem_toArray, List.getElem_cons_zero, List.getElem_cons_succ, Act.put, List.setIfInBounds_toArray, List.set_cons_zero, List.set_cons_succ]
      obtain ⟨xp, xr⟩ := x
      obtain ⟨yp, yr⟩ := y
      refine wpAnyH_take (i := 3) (v := ?_) rfl (by kernel_rfl) (by kernel_rfl) (by kernel_rfl) (fun _ _ _ h => h) (Or.inl ⟨by kernel_rfl, ?_⟩) (by assumption) ?_
      rotate_left
      · intro Wt hSt
        have hct := (show Wt.cell? ⟨b, o + k * 2, none⟩ = some (.int .i64 xp) from (hSt.cell (p := ⟨b, o + k * 2, none⟩) (lt_of_cell (unhide K1).1)).trans (unhide K1).1)
        have hcu := (show Wt.cell? ⟨b, o + k * 2 + 1, none⟩ = some (.bool xr) from (hSt.cell (p := ⟨b, o + k * 2 + 1, none⟩) (lt_of_cell (unhide K1).2)).trans (unhide K1).2)
        go_simp
        try with_reducible rfl
      try simp only [List.getElem_toArray, List.getElem_cons_zero, List.getElem_cons_succ, Act.put, List.setIfInBounds_toArray, List.set_cons_zero, List.set_cons_succ]
      refine wpAnyH_take (i := 4) (v := ?_) rfl (by kernel_rfl) (by kernel_rfl) (by kernel_rfl) (fun _ _ _ h => h) (Or.inl ⟨by kernel_rfl, ?_⟩) (by assumption) ?_
      rotate_left
      · intro Wt hSt
        go_simp
        try with_reducible rfl
      try simp only [List.getElem_toArray, List.getElem_cons_zero, List.getElem_cons_succ, Act.put, List.setIfInBounds_toArray, List.set_cons_zero, List.set_cons_succ]
      refine wpAnyH_take (i := 5) (v := ?_) rfl (by kernel_rfl) (by kernel_rfl) (by kernel_rfl) (fun _ _ _ h => h) (Or.inl ⟨by kernel_rfl, ?_⟩) (by assumption) ?_
      rotate_left
      · intro Wt hSt
        go_simp
        try with_reducible rfl
      try simp only [List.getElem_toArray, List.getElem_cons_zero, List.getElem_cons_succ, Act.put, List.setIfInBounds_toArray, List.set_cons_zero, List.set_cons_succ]
      refine wpAnyH_take (i := 6) (v := ?_) rfl (by kernel_rfl) (by kernel_rfl) (by kernel_rfl) (fun _ _ _ h => h) (Or.inl ⟨by kernel_rfl, ?_⟩) (by assumption) ?_
      rotate_left
      · intro Wt hSt
        go_simp
        try with_reducible rfl
      try simp only [List.getElem_toArray, List.getElem_cons_zero, List.getElem_cons_succ, Act.put, List.setIfInBounds_toArray, List.set_cons_zero, List.set_cons_succ]
      refine wpAnyH_take (i := 7) (v := ?_) rfl (by kernel_rfl) (by kernel_rfl) (by kernel_rfl) (fun _ _ _ h => h) (Or.inl ⟨by kernel_rfl, ?_⟩) (by assumption) ?_
      rotate_left
      · intro Wt hSt
        have hct := (show Wt.cell? ⟨b', o' + k * 2, none⟩ = some (.int .i64 yp) from (hSt.cell (p := ⟨b', o' + k * 2, none⟩) (lt_of_cell (unhide K2).1)).trans (unhide K2).1)
        have hcu := (show Wt.cell? ⟨b', o' + k * 2 + 1, none⟩ = some (.bool yr) from (hSt.cell (p := ⟨b', o' + k * 2 + 1, none⟩) (lt_of_cell (unhide K2).2)).trans (unhide K2).2)
        go_simp
        try with_reducible rfl
      try simp only [List.getElem_toArray, List.getElem_cons_zero, List.getElem_cons_succ, Act.put, List.setIfInBounds_toArray, List.set_cons_zero, List.set_cons_succ]
      obtain ⟨z, hz⟩ : ∃ z, z = cdEq ⟨xp, xr⟩ ⟨yp, yr⟩ := ⟨_, rfl⟩
      have HZ := hide hz
      clear hz
      refine wpAnyH_take (i := 8) (v := .bool (!z)) rfl (by kernel_rfl) (by kernel_rfl) (by kernel_rfl) (fun _ _ _ h => h) (Or.inl ⟨by kernel_rfl, ?_⟩) (by assumption) ?_
      · intro Wt hSt
        go_simp
        rw [unhide HZ]
        unfold cdEq
        by_cases h1 : xp = yp <;> by_cases h2 : xr = yr <;> simp [h1, h2]
      try simp only [List.getElem_toArray, List.getElem_cons_zero, List.getElem_cons_succ, Act.put, List.setIfInBounds_toArray, List.set_cons_zero, List.set_cons_succ]
      refine wpAnyH_chainOf [] _ _ _ (by kernel_rfl) (by kernel_rfl) ?_
      refine wpChain_nil ?_
      have HS := hide (thenB (unhide HB) hS)
      clear hS
      cases z
      rotate_left
      · have HXY : Hid ((⟨xp, xr⟩ : Cd) = ⟨yp, yr⟩) := (cdEq_iff _ _).1 (unhide HZ).symm
        
        
        go_wp2_with fail
        go_roundg g
        case measure => omega
        case rel =>
          have h := unhide HX
          refine ⟨k + 1, rfl, by omega, fun i h1 => ?_, unhide HS⟩
          by_cases hi : i < k
          · exact (unhide HALL) i hi
          · obtain rfl : i = k := by omega
            rw [← h.1, ← h.2.1]; exact unhide HXY
      · have e : R = false := bool_of_not (unhide HI) (fun h => absurd ((cdEq_iff ⟨xp, xr⟩ ⟨yp, yr⟩).2 (by
          have hx := unhide HX
          rw [h, ← hx.2.1] at hx
          exact hx.1)) (by rw [← unhide HZ]; decide))
        subst e
        
        go_wp2_with fail
        go_ret
        exact ⟨rfl, unhide HS⟩
    · have i1 : ¬ (k : Int) < (n : Int) := by omega
      have e : R = true := (unhide HI).2 (list_ext_getD l1 l2 d0 (by have := unhide HN; omega) fun i h => hall i (by have := unhide HN; omega))
      subst e
      clear hall hbw hk hkn
      go_wp2_with fail
      go_ret
      exact ⟨rfl, unhide HB⟩
end Go.Proofs.YtdmaopfaeigelaaGreatDoor
