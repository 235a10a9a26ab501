/- The examples of the chapter on signing hold; keys and messages that are few. -/
import Derived.Test.YtceppmajbkmbdaaDoorSigV
import Derived.Test.YtceppmajbkmbdaaDoorSigS3
namespace Go.Proofs.YtceppmajbkmbdaaDoor
set_option linter.unusedSimpArgs false
set_option linter.unusedVariables false
open Go.RowKit

theorem New_no (w : World) (A : Option Addr) (n c : Nat) (m : Int) (h : keyOk n m 0 = false) :
    Calls Tryd.prog 27 #[.slice A n c, .int .i64 m] w fun x w' => x = .returned (.tuple #[.agg #[.slice none 0 0, .int .i64 0, .int .i64 0], .int .i64 40]) ∧ Below w.heap.size w w' := by
  have := New_any w A n c m
  rw [h] at this
  exact this
theorem New_yes (w : World) (A : Option Addr) (n c : Nat) (m : Int) (h : keyOk n m 0 = true) :
    Calls Tryd.prog 27 #[.slice A n c, .int .i64 m] w fun x w' => x = .returned (.tuple #[.agg #[.slice A n c, .int .i64 m, .int .i64 0], .int .i64 0]) ∧ Below w.heap.size w w' := by
  have := New_any w A n c m
  rw [h] at this
  exact this
theorem Sign_no (w : World) (A : Option Addr) (n c : Nat) (many : Int) (hk : keyOk n many many = true) (Am : Option Addr) (nm cm : Nat) (hm : nm ≤ 65536) :
    Calls Tryd.prog 37 #[.agg #[.slice A n c, .int .i64 many, .int .i64 many], .slice Am nm cm] w fun x w' => x = .returned (.tuple #[.agg #[.slice none 0 0, .int .i64 0, .int .i64 0], .agg #[.int .i64 0, .slice none 0 0, .slice none 0 0, .slice none 0 0], .int .i64 40]) ∧ Below w.heap.size w w' :=
  Sign_spent w A n c many hk Am nm cm hm
theorem dg_zeros : Dg zeros := ⟨rfl, fun c hc => by rw [(List.mem_replicate.1 hc).2]; exact ⟨by omega, by omega⟩⟩

set_option maxRecDepth 100000 in
set_option maxHeartbeats 4000000 in
theorem sane4_any (w : World) (hT : DTab w) : Calls Tryd.prog 26 #[] w fun x w' => x = .returned (.bool true) ∧ Below w.heap.size w w' := by
  obtain ⟨i0, hi, hz0, hz1, hz2⟩ := info_parts infoByte
  have HT := hide hT
  clear hT
  go_enter Tryd.func26, Tryd.ntmps26
  go_wp2_with fail
  refine (New_no w none 0 0 1 (by decide)).mono ?_; rintro x W1 ⟨rfl, hB1⟩
  have HB1 := hide hB1
  clear hB1
  go_wp2_with (at_make; refine wpList_make_full _ rfl _ _ 22 rfl w.heap.size 5 i0 (.int .u8 0) 1 Tryd.underlying22 hi hz0 hz1 .i64 .i64 65 65 65 rfl rfl rfl rfl (by omega) (by unfold maxLen; omega) (by simp; exact Nat.le_trans (unhide HB1).size (by simp)) ?_)
  intro W2 hown hgrow
  have HB2 := hide (thenB (unhide HB1) (((Below.refl W1.heap.size W1).alloc (Nat.le_refl _) _).grown hgrow (by simp) (fun i e => by cases e)))
  clear hown hgrow HB1 hi hz0 hz1 hz2
  go_wp2_with fail
  refine (New_no W2 _ 65 65 1 (by decide)).mono ?_; rintro x W3 ⟨rfl, hB3⟩
  have HB3 := hide (thenB (unhide HB2) hB3)
  clear hB3 HB2
  go_wp2_with fail
  refine (New_no _ _ 1 1 4097 (by decide)).mono ?_; rintro x W4 ⟨rfl, hB4⟩
  have HB4 := hide (thenB (unhide HB3) ((((Below.refl W3.heap.size W3).alloc (Nat.le_refl _) _).alloc (by simp) _).trans (hB4.mono (by simp; omega))))
  clear hB4 HB3
  go_wp2_with fail
  refine (New_yes _ _ 2 2 2 (by decide)).mono ?_; rintro x W5 ⟨rfl, hB5⟩
  have HB5 := hide (thenB (unhide HB4) ((((Below.refl W4.heap.size W4).alloc (Nat.le_refl _) _).alloc (by simp) _).trans (hB5.mono (by simp; omega))))
  clear hB5 HB4
  go_wp2_with fail
  refine (Sign_no _ _ 1 1 1 (by decide) none 0 0 (by decide)).mono ?_; rintro x W6 ⟨rfl, hB6⟩
  have hc1 : W6.cell? ⟨W5.heap.size, 1, none⟩ = some (.int .i64 2) := (hB6.cell (p := ⟨W5.heap.size, 1, none⟩) (by simp; omega)).trans (by go_simp)
  have hc2 : W6.cell? ⟨W5.heap.size, 2, none⟩ = some (.int .i64 0) := (hB6.cell (p := ⟨W5.heap.size, 2, none⟩) (by simp; omega)).trans (by go_simp)
  have hlt6 : W5.heap.size < W6.heap.size := Nat.lt_of_lt_of_le (by simp; omega) hB6.size
  have HB6 := hide (thenB (unhide HB5) ((((Below.refl W5.heap.size W5).alloc (Nat.le_refl _) _).alloc (by simp) _).trans (hB6.mono (by simp; omega))))
  clear hB6 HB5
  go_wp2_with fail
  refine (Bits_bad _ zeros dg_zeros (-1) (.inl (by decide)) _).mono ?_; rintro x W7 ⟨rfl, hB7⟩
  have HB7 := hide (thenB (unhide HB6) ((((Below.refl W6.heap.size W6).alloc (Nat.le_refl _) _).alloc (by simp) _).trans (hB7.mono (by simp; omega))))
  clear hB7 HB6 hc1 hc2 hlt6
  have hb := Bits_ok W7 zeros dg_zeros 0 (by decide) none 0 0 [] rfl (Nat.le_refl _) Bt.nil (fun _ => rfl) (by decide) ((unhide HT).keep (unhide HB7))
  rw [show ((0 : Nat) : Int) = 0 from rfl] at hb
  have HBI := hide hb
  clear hb
  go_wp2_with fail
  refine (unhide HBI).mono ?_; rintro x W8 ⟨A8, c8, rfl, _, _, hB8⟩
  rw [bitsS_length]
  have HB8 := hide (thenB (unhide HB7) hB8)
  clear hB8 HB7 HBI
  go_wp2_with fail
  refine (Verify_no W8 zeros dg_zeros 0 0 none 0 0 none 0 0 none 0 0 none 0 0 (.inl (by decide))).mono ?_; rintro x W9 ⟨rfl, hB9⟩
  have HB9 := hide (thenB (unhide HB8) hB9)
  clear hB9 HB8
  go_wp2_with fail
  refine (Verify_no W9 zeros dg_zeros 1 0 none 0 0 none 0 0 none 0 0 none 0 0 (.inr (.inr (.inr (.inr (.inl (by decide))))))).mono ?_; rintro x W10 ⟨rfl, hB10⟩
  have HB10 := hide (thenB (unhide HB9) hB10)
  clear hB10 HB9
  go_wp2_with fail
  go_ret
  exact ⟨rfl, unhide HB10⟩

def fewS (n : Nat) (m : Int) (nm : Nat) : Bool := decide (m ≤ 2 ∧ n ≤ 100 ∧ nm ≤ 300)
set_option maxRecDepth 100000 in
set_option maxHeartbeats 4000000 in
theorem few4_any (w : World) (A : Option Addr) (n c : Nat) (m u : Int) (Am : Option Addr) (nm cm : Nat) :
    Calls Tryd.prog 33 #[.agg #[.slice A n c, .int .i64 m, .int .i64 u], .slice Am nm cm] w fun x w' => x = .returned (.bool (fewS n m nm)) ∧ Below w.heap.size w w' := by
  have hb1 := fun o => Below.alloc (Below.refl w.heap.size w) (Nat.le_refl _) o
  have HB := hide hb1
  clear hb1
  by_cases h1 : m ≤ 2
  · by_cases h2 : (n : Int) ≤ 100
    · by_cases h3 : (nm : Int) ≤ 300
      · have e : fewS n m nm = true := by unfold fewS; simp; omega
        rw [e]; clear e
        go_enter Tryd.func33, Tryd.ntmps33
        go_wp2_with fail
        go_ret
        exact ⟨rfl, unhide HB _⟩
      · have e : fewS n m nm = false := by unfold fewS; simp; omega
        rw [e]; clear e
        go_enter Tryd.func33, Tryd.ntmps33
        go_wp2_with fail
        go_ret
        exact ⟨rfl, unhide HB _⟩
    · have e : fewS n m nm = false := by unfold fewS; simp; omega
      rw [e]; clear e
      go_enter Tryd.func33, Tryd.ntmps33
      go_wp2_with fail
      go_ret
      exact ⟨rfl, unhide HB _⟩
  · have e : fewS n m nm = false := by unfold fewS; simp; omega
    rw [e]; clear e
    go_enter Tryd.func33, Tryd.ntmps33
    go_wp2_with fail
    go_ret
    exact ⟨rfl, unhide HB _⟩
end Go.Proofs.YtceppmajbkmbdaaDoor
