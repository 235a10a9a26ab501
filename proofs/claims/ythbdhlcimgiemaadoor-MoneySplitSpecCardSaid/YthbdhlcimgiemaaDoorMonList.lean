/- Contracts over the program of money: the reference's sum, the sum of weights, parts per thousand, equal lists. -/
import Derived.Test.YthbdhlcimgiemaaDoorMonBase
namespace Go.Proofs.YthbdhlcimgiemaaDoor
set_option linter.unusedSimpArgs false
set_option linter.unusedVariables false
open Go.RowKit

set_option maxHeartbeats 1000000 in
theorem rsum_any (A : Option Addr) (c : Nat) (l : List Int) (w : World) (hA : It w A l) (hl : l.length ≤ 1000000) :
    Calls Tryd.prog 12 #[.slice A l.length c] w fun e w' => e = .returned (.tuple #[.int .i64 (sumV l), .int .i64 (sumE l)]) ∧ w' = w := by
  obtain ⟨n, hn⟩ : ∃ n, n = l.length := ⟨_, rfl⟩
  rw [← hn] at hl ⊢
  have HN := hide hn
  have HA := hide hA
  clear hn hA
  go_enter Tryd.func12, Tryd.ntmps12
  go_wp2_with fail
  go_loop [4, 5] (fun s i => ∃ (k : Nat) (m : Int), k ≤ n ∧ Am m ∧ sumGo 0 l = sumGo m (l.drop k) ∧ s = .int .i64 m ∧ i = .int .i64 (k : Int)) (fun _ i => n - (intOf i).toNat)
  case atStart => exact ⟨0, 0, Nat.zero_le _, by decide, by rw [List.drop_zero], rfl, rfl⟩
  case round =>
    obtain ⟨k, m, hk, hm, hs, rfl, rfl⟩ := hrel
    have HS := hide hs
    have hm1 := hm.1
    have hm2 := hm.2
    clear hs hm
    by_cases hlt : k < n
    · have hkl : k < l.length := by have := unhide HN; omega
      obtain ⟨b, o, rfl, hc⟩ := (unhide HA).at_ (List.ne_nil_of_length_pos (by omega))
      have hck := hc k hkl
      have hd := drop_at l k hkl
      have h64 := (unhide HA).i64 (l.getD k 0) (by rw [List.getD_eq_getElem?_getD, List.getElem?_eq_getElem hkl]; exact List.getElem_mem hkl)
      generalize l.getD k 0 = x at hck hd h64
      have HD := hide hd
      have h641 := h64.1
      have h642 := h64.2
      clear hc hd h64 hkl
      by_cases hx : Am x
      · have hx1 := hx.1
        have hx2 := hx.2
        have hw : IntKind.i64.wrap (m + x) = m + x := IntWalk.i64_in _ (by omega)
        by_cases hy : Am (m + x)
        · have hy1 := hy.1
          have hy2 := hy.2
          go_wp2_with fail
          refine (rcheck_ok x _ hx).mono ?_; rintro e w' ⟨rfl, rfl⟩
          go_wp2_with fail
          refine (rcheck_ok _ _ hy).mono ?_; rintro e w' ⟨rfl, rfl⟩
          go_wp2_with fail
          go_round
          case rel => exact ⟨k + 1, m + x, by omega, hy, by rw [unhide HS, unhide HD, sumGo, if_pos ⟨hx, hy⟩], rfl, by go_num⟩
          case measure => simp [intOf]; omega
        · go_wp2_with fail
          refine (rcheck_ok x _ hx).mono ?_; rintro e w' ⟨rfl, rfl⟩
          go_wp2_with fail
          refine (rcheck_no _ _ hy).mono ?_; rintro e w' ⟨rfl, rfl⟩
          go_wp2_with fail
          go_ret2
          have e : sumGo 0 l = none := by rw [unhide HS, unhide HD, sumGo, if_neg (fun h => hy h.2)]
          exact ⟨ret2I (by unfold sumV; rw [e]; rfl) (by unfold sumE; rw [e]; rfl), rfl⟩
      · go_wp2_with fail
        refine (rcheck_no x _ hx).mono ?_; rintro e w' ⟨rfl, rfl⟩
        go_wp2_with fail
        go_ret2
        have e : sumGo 0 l = none := by rw [unhide HS, unhide HD, sumGo, if_neg (fun h => hx h.1)]
        exact ⟨ret2I (by unfold sumV; rw [e]; rfl) (by unfold sumE; rw [e]; rfl), rfl⟩
    · go_wp2_with fail
      go_ret2
      have e : sumGo 0 l = some m := by rw [unhide HS, List.drop_of_length_le (by have := unhide HN; omega)]; rfl
      exact ⟨ret2I (by unfold sumV; rw [e]; rfl) (by unfold sumE; rw [e]; rfl), rfl⟩

/-- the sum of weights -/
def tot : List Int → Int
  | [] => 0
  | x :: r => x + tot r
/-- a weight -/
def Wt (l : List Int) : Prop := ∀ x ∈ l, 0 ≤ x ∧ x ≤ 1000
theorem tot_bd : ∀ {l : List Int}, Wt l → 0 ≤ tot l ∧ tot l ≤ 1000 * l.length
  | [], _ => by simp [tot]
  | x :: r, h => by
    have h1 := h x List.mem_cons_self
    have h2 := tot_bd (l := r) (fun y hy => h y (List.mem_cons_of_mem _ hy))
    simp only [tot, List.length_cons]
    omega
theorem Wt.drop {l : List Int} (h : Wt l) (k : Nat) : Wt (l.drop k) := fun x hx => h x (List.mem_of_mem_drop hx)
theorem Wt.getD {l : List Int} (h : Wt l) (k : Nat) : 0 ≤ l.getD k 0 ∧ l.getD k 0 ≤ 1000 := by
  rw [List.getD_eq_getElem?_getD]
  rcases Nat.lt_or_ge k l.length with hk | hk
  · rw [List.getElem?_eq_getElem hk]; exact h _ (List.getElem_mem hk)
  · rw [List.getElem?_eq_none hk]; decide

set_option maxHeartbeats 1000000 in
theorem total_any (A : Option Addr) (c : Nat) (l : List Int) (w : World) (hA : It w A l) (hl : l.length ≤ 1000) (hW : Wt l) :
    Calls Tryd.prog 34 #[.slice A l.length c] w fun e w' => e = .returned (.int .i64 (tot l)) ∧ w' = w := by
  obtain ⟨n, hn⟩ : ∃ n, n = l.length := ⟨_, rfl⟩
  rw [← hn] at hl ⊢
  have HN := hide hn
  have HA := hide hA
  have HW := hide hW
  clear hn hA hW
  go_enter Tryd.func34, Tryd.ntmps34
  go_wp2_with fail
  go_loop [2, 7] (fun s i => ∃ (k : Nat) (m : Int), k ≤ n ∧ 0 ≤ m ∧ m ≤ 1000 * k ∧ tot l = m + tot (l.drop k) ∧ s = .int .i64 m ∧ i = .int .i64 (k : Int)) (fun _ i => n - (intOf i).toNat)
  case atStart => exact ⟨0, 0, Nat.zero_le _, by decide, by decide, by rw [List.drop_zero]; omega, rfl, rfl⟩
  case round =>
    obtain ⟨k, m, hk, hm1, hm2, hs, rfl, rfl⟩ := hrel
    have HS := hide hs
    clear hs
    by_cases hlt : k < n
    · have hkl : k < l.length := by have := unhide HN; omega
      obtain ⟨b, o, rfl, hc⟩ := (unhide HA).at_ (List.ne_nil_of_length_pos (by omega))
      have hck := hc k hkl
      have hd := drop_at l k hkl
      obtain ⟨hx1, hx2⟩ := (unhide HW).getD k
      generalize l.getD k 0 = x at hck hd hx1 hx2
      have HD := hide hd
      clear hc hd hkl
      have hw : IntKind.i64.wrap (m + x) = m + x := IntWalk.i64_in _ (by omega)
      go_wp2_with fail
      go_round
      case rel => exact ⟨k + 1, m + x, by omega, by omega, by omega, by rw [unhide HS, unhide HD, tot]; omega, rfl, by go_num⟩
      case measure => simp [intOf]; omega
    · go_wp2_with fail
      go_ret
      have e : tot l = m := by rw [unhide HS, List.drop_of_length_le (by have := unhide HN; omega)]; simp [tot]
      exact ⟨retI e.symm, rfl⟩

theorem mul_bd {a p : Int} (h : Am a) (h0 : 0 ≤ p) (h1 : p ≤ 1000) : -1125899906842624000 ≤ a * p ∧ a * p ≤ 1125899906842624000 := by
  obtain ⟨h2, h3⟩ := h
  have e1 : a * p ≤ 1125899906842624 * p := Int.mul_le_mul_of_nonneg_right h3 h0
  have e2 : -1125899906842624 * p ≤ a * p := Int.mul_le_mul_of_nonneg_right h2 h0
  constructor <;> omega

/-- so many parts per thousand -/
def partV (a p : Int) : Int := if Am a then (if 0 ≤ p ∧ p ≤ 1000 then (a * p).tdiv 1000 else 0) else 0
def partE (a p : Int) : Int := if Am a then (if 0 ≤ p ∧ p ≤ 1000 then 0 else 1) else 50
theorem tdiv_bd {q : Int} (h0 : -1125899906842624000 ≤ q) (h1 : q ≤ 1125899906842624000) : -1125899906842624000 ≤ q.tdiv 1000 ∧ q.tdiv 1000 ≤ 1125899906842624000 := by
  by_cases h : 0 ≤ q
  · rw [Int.tdiv_eq_ediv_of_nonneg h]; omega
  · have e : q.tdiv 1000 = -((-q) / 1000) := by
      rw [← Int.tdiv_eq_ediv_of_nonneg (by omega : 0 ≤ -q), Int.neg_tdiv]; omega
    rw [e]; omega
theorem part_ok (a p : Int) (w : World) (ha : Am a) (h0 : 0 ≤ p) (h1 : p ≤ 1000) :
    Calls Tryd.prog 17 #[.int .i64 a, .int .i64 p] w fun e w' => e = .returned (.tuple #[.int .i64 (partV a p), .int .i64 (partE a p)]) ∧ w' = w := by
  rw [show partV a p = (a * p).tdiv 1000 by unfold partV; rw [if_pos ha, if_pos ⟨h0, h1⟩], show partE a p = 0 by unfold partE; rw [if_pos ha, if_pos ⟨h0, h1⟩]]
  have hb := mul_bd ha h0 h1
  have hw : IntKind.i64.wrap (a * p) = a * p := IntWalk.i64_in _ (by omega)
  have hw2 : IntKind.i64.wrap ((a * p).tdiv 1000) = (a * p).tdiv 1000 := IntWalk.i64_in _ (by have := tdiv_bd hb.1 hb.2; omega)
  go_enter Tryd.func17, Tryd.ntmps17
  go_wp2_with fail
  refine (check_ok a _ ha).mono ?_; rintro e w' ⟨rfl, rfl⟩
  go_wp2_with fail
  go_ret2
  exact ⟨rfl, rfl⟩
theorem part_no (a p : Int) (w : World) (h : ¬ Am a) :
    Calls Tryd.prog 17 #[.int .i64 a, .int .i64 p] w fun e w' => e = .returned (.tuple #[.int .i64 (partV a p), .int .i64 (partE a p)]) ∧ w' = w := by
  rw [show partV a p = 0 by unfold partV; rw [if_neg h], show partE a p = 50 by unfold partE; rw [if_neg h]]
  go_enter Tryd.func17, Tryd.ntmps17
  go_wp2_with fail
  refine (check_no a _ h).mono ?_; rintro e w' ⟨rfl, rfl⟩
  go_wp2_with fail
  go_ret2
  exact ⟨rfl, rfl⟩
theorem part_bad (a p : Int) (w : World) (ha : Am a) (h : ¬ (0 ≤ p ∧ p ≤ 1000)) :
    Calls Tryd.prog 17 #[.int .i64 a, .int .i64 p] w fun e w' => e = .returned (.tuple #[.int .i64 (partV a p), .int .i64 (partE a p)]) ∧ w' = w := by
  rw [show partV a p = 0 by unfold partV; rw [if_pos ha, if_neg h], show partE a p = 1 by unfold partE; rw [if_pos ha, if_neg h]]
  by_cases h0 : p < 0
  · go_enter Tryd.func17, Tryd.ntmps17
    go_wp2_with fail
    refine (check_ok a _ ha).mono ?_; rintro e w' ⟨rfl, rfl⟩
    go_wp2_with fail
    go_ret2
    exact ⟨rfl, rfl⟩
  · have h1 : 1000 < p := by omega
    go_enter Tryd.func17, Tryd.ntmps17
    go_wp2_with fail
    refine (check_ok a _ ha).mono ?_; rintro e w' ⟨rfl, rfl⟩
    go_wp2_with fail
    go_ret2
    exact ⟨rfl, rfl⟩
theorem part_any (a p : Int) (w : World) :
    Calls Tryd.prog 17 #[.int .i64 a, .int .i64 p] w fun e w' => e = .returned (.tuple #[.int .i64 (partV a p), .int .i64 (partE a p)]) ∧ w' = w := by
  by_cases ha : Am a
  · by_cases h : 0 ≤ p ∧ p ≤ 1000
    · exact part_ok a p w ha h.1 h.2
    · exact part_bad a p w ha h
  · exact part_no a p w ha
theorem rpart_ok (a p : Int) (w : World) (ha : Am a) (h0 : 0 ≤ p) (h1 : p ≤ 1000) :
    Calls Tryd.prog 18 #[.int .i64 a, .int .i64 p] w fun e w' => e = .returned (.tuple #[.int .i64 (partV a p), .int .i64 (partE a p)]) ∧ w' = w := by
  rw [show partV a p = (a * p).tdiv 1000 by unfold partV; rw [if_pos ha, if_pos ⟨h0, h1⟩], show partE a p = 0 by unfold partE; rw [if_pos ha, if_pos ⟨h0, h1⟩]]
  have hb := mul_bd ha h0 h1
  have hw : IntKind.i64.wrap (a * p) = a * p := IntWalk.i64_in _ (by omega)
  have hw2 : IntKind.i64.wrap ((a * p).tdiv 1000) = (a * p).tdiv 1000 := IntWalk.i64_in _ (by have := tdiv_bd hb.1 hb.2; omega)
  go_enter Tryd.func18, Tryd.ntmps18
  go_wp2_with fail
  refine (rcheck_ok a _ ha).mono ?_; rintro e w' ⟨rfl, rfl⟩
  go_wp2_with fail
  go_ret2
  exact ⟨rfl, rfl⟩
theorem rpart_no (a p : Int) (w : World) (h : ¬ Am a) :
    Calls Tryd.prog 18 #[.int .i64 a, .int .i64 p] w fun e w' => e = .returned (.tuple #[.int .i64 (partV a p), .int .i64 (partE a p)]) ∧ w' = w := by
  rw [show partV a p = 0 by unfold partV; rw [if_neg h], show partE a p = 50 by unfold partE; rw [if_neg h]]
  go_enter Tryd.func18, Tryd.ntmps18
  go_wp2_with fail
  refine (rcheck_no a _ h).mono ?_; rintro e w' ⟨rfl, rfl⟩
  go_wp2_with fail
  go_ret2
  exact ⟨rfl, rfl⟩
theorem rpart_bad (a p : Int) (w : World) (ha : Am a) (h : ¬ (0 ≤ p ∧ p ≤ 1000)) :
    Calls Tryd.prog 18 #[.int .i64 a, .int .i64 p] w fun e w' => e = .returned (.tuple #[.int .i64 (partV a p), .int .i64 (partE a p)]) ∧ w' = w := by
  rw [show partV a p = 0 by unfold partV; rw [if_pos ha, if_neg h], show partE a p = 1 by unfold partE; rw [if_pos ha, if_neg h]]
  by_cases h0 : p < 0
  · go_enter Tryd.func18, Tryd.ntmps18
    go_wp2_with fail
    refine (rcheck_ok a _ ha).mono ?_; rintro e w' ⟨rfl, rfl⟩
    go_wp2_with fail
    go_ret2
    exact ⟨rfl, rfl⟩
  · have h1 : 1000 < p := by omega
    go_enter Tryd.func18, Tryd.ntmps18
    go_wp2_with fail
    refine (rcheck_ok a _ ha).mono ?_; rintro e w' ⟨rfl, rfl⟩
    go_wp2_with fail
    go_ret2
    exact ⟨rfl, rfl⟩
theorem rpart_any (a p : Int) (w : World) :
    Calls Tryd.prog 18 #[.int .i64 a, .int .i64 p] w fun e w' => e = .returned (.tuple #[.int .i64 (partV a p), .int .i64 (partE a p)]) ∧ w' = w := by
  by_cases ha : Am a
  · by_cases h : 0 ≤ p ∧ p ≤ 1000
    · exact rpart_ok a p w ha h.1 h.2
    · exact rpart_bad a p w ha h
  · exact rpart_no a p w ha

/-- two lists that are equal -/
def TrueB (w : World) (e : Ending) (w' : World) : Prop := e = .returned (.bool true) ∧ Below w.heap.size w w'
set_option maxHeartbeats 1000000 in
theorem same_eq (A B : Option Addr) (c d : Nat) (l : List Int) (w : World) (hA : It w A l) (hB : It w B l) (hl : l.length ≤ 1000000) :
    Calls Tryd.prog 19 #[.slice A l.length c, .slice B l.length d] w (TrueB w) := by
  obtain ⟨n, hn⟩ : ∃ n, n = l.length := ⟨_, rfl⟩
  rw [← hn] at hl ⊢
  have HN := hide hn
  have HA := hide hA
  have HB := hide hB
  clear hn hA hB
  go_enter Tryd.func19, Tryd.ntmps19
  go_wp2_with fail
  go_loopw [5] (fun i wr => ∃ k : Nat, k ≤ n ∧ i = .int .i64 (k : Int) ∧ Below w.heap.size w wr) (fun i wr => n - (intOf i).toNat)
  case atStart => exact ⟨0, Nat.zero_le _, rfl, Below.refl _ _⟩
  case round =>
    obtain ⟨k, hk, rfl, hb⟩ := hrel
    have HBW := hide hb
    by_cases hlt : k < n
    · have hkl : k < l.length := by have := unhide HN; omega
      obtain ⟨b, o, rfl, hc⟩ := ((unhide HA).keep hb).at_ (List.ne_nil_of_length_pos (by omega))
      obtain ⟨b2, o2, rfl, hc2⟩ := ((unhide HB).keep hb).at_ (List.ne_nil_of_length_pos (by omega))
      have hck := hc k hkl
      have hck2 := hc2 k hkl
      generalize l.getD k 0 = x at hck hck2
      clear hc hc2 hkl hb
      go_wp2_with fail
      go_quiet (fail)
      go_wp2_with fail
      go_roundw
      case rel => exact ⟨k + 1, by omega, by go_num, belowDrewN _ (unhide HBW)⟩
      case measure => simp [intOf]; omega
    · clear hb
      go_wp2_with fail
      go_ret
      exact ⟨rfl, unhide HBW⟩
end Go.Proofs.YthbdhlcimgiemaaDoor
