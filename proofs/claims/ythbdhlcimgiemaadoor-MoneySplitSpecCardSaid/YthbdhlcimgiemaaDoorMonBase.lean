/- Contracts over the program of money: amounts, sums, lists of numbers that are equal. -/
import Derived.Test.YthbdhlcimgiemaaDoorChecked
import Derived.WalkKit
import Derived.ProofKit
import Derived.Handy
import Derived.Deep.QuietTactic
import Derived.BigQuiet
import Derived.Lib.Hide
import Derived.Outline
import Derived.OwnWalk
import Derived.Maps.AppendAt
namespace Go.Proofs.YthbdhlcimgiemaaDoor
set_option linter.unusedSimpArgs false
set_option linter.unusedVariables false
open Go.RowKit

theorem hide {p : Prop} (h : p) : Hid p := h
theorem unhide {p : Prop} (h : Hid p) : p := h
theorem belowDrewN {B : Nat} {a w : World} (n : Nat) (h : Below B a w) : Below B a (w.drewN n) := ⟨h.os, h.tape, h.output, h.size, h.block⟩
theorem thenB {W w1 w2 : World} (h1 : Below W.heap.size W w1) (h2 : Below w1.heap.size w1 w2) : Below W.heap.size W w2 := h1.trans (h2.mono h1.size)
theorem lt_of_cell {w : World} {a : Addr} {v : Value} (h : w.cell? a = some v) : a.block < w.heap.size := World.block_lt_of_cell? w a h
theorem cell_block {w w' : World} {b o : Nat} (h : w'.heap[b]? = w.heap[b]?) : w'.cell? ⟨b, o, none⟩ = w.cell? ⟨b, o, none⟩ := by
  unfold World.cell?
  rw [h]

def I64 (k : Int) : Prop := -9223372036854775808 ≤ k ∧ k ≤ 9223372036854775807
/-- the slice of ints at A reads as the list -/
structure It (w : World) (A : Option Addr) (l : List Int) : Prop where
  i64 : ∀ c ∈ l, I64 c
  at_ : l ≠ [] → ∃ b o, A = some ⟨b, o, none⟩ ∧ ∀ j, j < l.length → w.cell? ⟨b, o + j, none⟩ = some (.int .i64 (l.getD j 0))
theorem It.nil {w : World} {A : Option Addr} : It w A [] := ⟨fun c hc => (List.not_mem_nil hc).elim, fun h => absurd rfl h⟩
theorem It.keep {w w' : World} {A : Option Addr} {l : List Int} (h : It w A l) (hg : Below w.heap.size w w') : It w' A l := by
  refine ⟨h.i64, fun hl => ?_⟩
  obtain ⟨b, o, e, hc⟩ := h.at_ hl
  refine ⟨b, o, e, fun j hj => ?_⟩
  have hj' := hc j hj
  have hlt := lt_of_cell hj'
  rw [cell_block (hg.block b hlt)]
  exact hj'

/-- an amount -/
def Am (n : Int) : Prop := -1125899906842624 ≤ n ∧ n ≤ 1125899906842624
instance (n : Int) : Decidable (Am n) := inferInstanceAs (Decidable (_ ∧ _))

theorem check_ok (n : Int) (w : World) (h : Am n) : Calls Tryd.prog 13 #[.int .i64 n] w fun e w' => e = .returned (.int .i64 0) ∧ w' = w := by
  obtain ⟨h1, h2⟩ := h
  go_enter Tryd.func13, Tryd.ntmps13
  go_wp2
  go_ret
  exact ⟨rfl, rfl⟩
theorem check_no (n : Int) (w : World) (h : ¬ Am n) : Calls Tryd.prog 13 #[.int .i64 n] w fun e w' => e = .returned (.int .i64 50) ∧ w' = w := by
  by_cases h1 : n < -1125899906842624
  · go_enter Tryd.func13, Tryd.ntmps13
    go_wp2
    go_ret
    exact ⟨rfl, rfl⟩
  · have h2 : 1125899906842624 < n := by unfold Am at h; omega
    go_enter Tryd.func13, Tryd.ntmps13
    go_wp2
    go_ret
    exact ⟨rfl, rfl⟩
theorem rcheck_ok (n : Int) (w : World) (h : Am n) : Calls Tryd.prog 14 #[.int .i64 n] w fun e w' => e = .returned (.int .i64 0) ∧ w' = w := by
  obtain ⟨h1, h2⟩ := h
  go_enter Tryd.func14, Tryd.ntmps14
  go_wp2
  go_ret
  exact ⟨rfl, rfl⟩
theorem rcheck_no (n : Int) (w : World) (h : ¬ Am n) : Calls Tryd.prog 14 #[.int .i64 n] w fun e w' => e = .returned (.int .i64 50) ∧ w' = w := by
  by_cases h1 : n < -1125899906842624
  · go_enter Tryd.func14, Tryd.ntmps14
    go_wp2
    go_ret
    exact ⟨rfl, rfl⟩
  · have h2 : 1125899906842624 < n := by unfold Am at h; omega
    go_enter Tryd.func14, Tryd.ntmps14
    go_wp2
    go_ret
    exact ⟨rfl, rfl⟩
theorem sign_neg (n : Int) (w : World) (h : n < 0) : Calls Tryd.prog 25 #[.int .i64 n] w fun e w' => e = .returned (.int .i64 (-1)) ∧ w' = w := by
  go_enter Tryd.func25, Tryd.ntmps25
  go_wp2
  go_ret
  exact ⟨rfl, rfl⟩
theorem sign_pos (n : Int) (w : World) (h : 0 ≤ n) : Calls Tryd.prog 25 #[.int .i64 n] w fun e w' => e = .returned (.int .i64 1) ∧ w' = w := by
  go_enter Tryd.func25, Tryd.ntmps25
  go_wp2
  go_ret
  exact ⟨rfl, rfl⟩

theorem drop_at (l : List Int) (k : Nat) (h : k < l.length) : l.drop k = l.getD k 0 :: l.drop (k + 1) := by
  rw [List.drop_eq_getElem_cons h, List.getD_eq_getElem?_getD, List.getElem?_eq_getElem h]
  rfl

/-- the sum, with none where a beginning is no amount -/
def sumGo (n : Int) : List Int → Option Int
  | [] => some n
  | x :: r => if Am x ∧ Am (n + x) then sumGo (n + x) r else none
def sumV (l : List Int) : Int := (sumGo 0 l).getD 0
def sumE (l : List Int) : Int := if (sumGo 0 l).isSome then 0 else 50
theorem retI {k : IntKind} {a b : Int} (h : a = b) : Ending.returned (.int k a) = .returned (.int k b) := by rw [h]
theorem ret2I {a b c d : Int} (h : a = b) (h2 : c = d) : Ending.returned (.tuple #[.int .i64 a, .int .i64 c]) = .returned (.tuple #[.int .i64 b, .int .i64 d]) := by rw [h, h2]

set_option maxHeartbeats 1000000 in
theorem sum_any (A : Option Addr) (c : Nat) (l : List Int) (w : World) (hA : It w A l) (hl : l.length ≤ 1000000) :
    Calls Tryd.prog 11 #[.slice A l.length c] w fun e w' => e = .returned (.tuple #[.int .i64 (sumV l), .int .i64 (sumE l)]) ∧ w' = w := by
  obtain ⟨n, hn⟩ : ∃ n, n = l.length := ⟨_, rfl⟩
  rw [← hn] at hl ⊢
  have HN := hide hn
  have HA := hide hA
  clear hn hA
  go_enter Tryd.func11, Tryd.ntmps11
  go_wp2_with fail
  go_loop [2, 8] (fun s i => ∃ (k : Nat) (m : Int), k ≤ n ∧ Am m ∧ sumGo 0 l = sumGo m (l.drop k) ∧ s = .int .i64 m ∧ i = .int .i64 (k : Int)) (fun _ i => n - (intOf i).toNat)
  case atStart => exact ⟨0, 0, Nat.zero_le _, by decide, by rw [List.drop_zero], rfl, rfl⟩
  case round =>
    obtain ⟨k, m, hk, hm, hs, rfl, rfl⟩ := hrel
    have HS := hide hs
    have hm1 := hm.1
    have hm2 := hm.2
    clear hs hm
    by_cases hlt : k < n
    · have hkl : k < l.length := by have := unhide HN; omega
      obtain ⟨b, o, rfl, hc⟩ := (unhide HA).at_ (List.ne_nil_of_length_pos (by omega))
      have hck := hc k hkl
      have hd := drop_at l k hkl
      have h64 := (unhide HA).i64 (l.getD k 0) (by rw [List.getD_eq_getElem?_getD, List.getElem?_eq_getElem hkl]; exact List.getElem_mem hkl)
      generalize l.getD k 0 = x at hck hd h64
      have HD := hide hd
      have h641 := h64.1
      have h642 := h64.2
      clear hc hd h64 hkl
      by_cases hx : Am x
      · have hx1 := hx.1
        have hx2 := hx.2
        have hw : IntKind.i64.wrap (m + x) = m + x := IntWalk.i64_in _ (by omega)
        by_cases hy : Am (m + x)
        · have hy1 := hy.1
          have hy2 := hy.2
          go_wp2_with fail
          refine (check_ok x _ hx).mono ?_; rintro e w' ⟨rfl, rfl⟩
          go_wp2_with fail
          refine (check_ok _ _ hy).mono ?_; rintro e w' ⟨rfl, rfl⟩
          go_wp2_with fail
          go_round
          case rel => exact ⟨k + 1, m + x, by omega, hy, by rw [unhide HS, unhide HD, sumGo, if_pos ⟨hx, hy⟩], rfl, by go_num⟩
          case measure => simp [intOf]; omega
        · go_wp2_with fail
          refine (check_ok x _ hx).mono ?_; rintro e w' ⟨rfl, rfl⟩
          go_wp2_with fail
          refine (check_no _ _ hy).mono ?_; rintro e w' ⟨rfl, rfl⟩
          go_wp2_with fail
          go_ret2
          have e : sumGo 0 l = none := by rw [unhide HS, unhide HD, sumGo, if_neg (fun h => hy h.2)]
          exact ⟨ret2I (by unfold sumV; rw [e]; rfl) (by unfold sumE; rw [e]; rfl), rfl⟩
      · go_wp2_with fail
        refine (check_no x _ hx).mono ?_; rintro e w' ⟨rfl, rfl⟩
        go_wp2_with fail
        go_ret2
        have e : sumGo 0 l = none := by rw [unhide HS, unhide HD, sumGo, if_neg (fun h => hx h.1)]
        exact ⟨ret2I (by unfold sumV; rw [e]; rfl) (by unfold sumE; rw [e]; rfl), rfl⟩
    · go_wp2_with fail
      go_ret2
      have e : sumGo 0 l = some m := by rw [unhide HS, List.drop_of_length_le (by have := unhide HN; omega)]; rfl
      exact ⟨ret2I (by unfold sumV; rw [e]; rfl) (by unfold sumE; rw [e]; rfl), rfl⟩
end Go.Proofs.YthbdhlcimgiemaaDoor
