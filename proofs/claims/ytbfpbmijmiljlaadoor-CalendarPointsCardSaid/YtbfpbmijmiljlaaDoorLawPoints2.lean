/- The walk of the law CalendarPoints at a list that is empty, and at every list. -/
import Derived.Test.YtbfpbmijmiljlaaDoorLawPoints
namespace Go.Proofs.YtbfpbmijmiljlaaDoor
set_option linter.unusedSimpArgs false
set_option linter.unusedVariables false
open Go.RowKit Go.LawClose

set_option maxRecDepth 100000 in
set_option maxHeartbeats 4000000 in
theorem points_nil (n at_ : Int) (A : Option Addr) (cap : Nat) (w : World) (HT : Hid (Tab w)) (hA : A = none → cap = 0) :
    Calls Tryd.prog 8 #[.slice A 0 cap, .int .i64 n, .int .u64 at_] w (LawOk w) := by
  have hU := fun (W : World) => union_any A cap [] W (IvAt.nil _ _) (by decide) hA rfl
  have HU := hide hU; clear hU
  go_enter Tryd.func8, Tryd.ntmps8
  go_wp2_with fail
  refine (sane_any _ (unhide HT)).mono ?_; rintro e w1 ⟨rfl, hb1⟩
  have HB1 := hide hb1; clear hb1
  go_wp2_with fail
  refine ((unhide HU) _).mono ?_; rintro e w2 ⟨u, A2, c2, he, hiu, hun, hul, hA2, hb2⟩
  obtain rfl := union_empty hun
  simp only [List.length_nil] at he
  subst he
  have HB2 := hide (thenB (unhide HB1) hb2)
  clear hb2 hiu hun hA2 hul
  go_wp2_with fail
  go_loopw [9, 10] (fun v i wr => v = .slice (some ⟨w2.heap.size, 0, none⟩) 1 1 ∧ i = .int .i64 0 ∧ wr = w2.alloc (.cells #[.int .i64 n] 3)) (fun _ _ _ => 0)
  case atStart => exact ⟨rfl, rfl, rfl⟩
  case round =>
    obtain ⟨rfl, rfl, rfl⟩ := hrel
    go_wp2_with fail
    go_loopw [11] (fun i wl => ∃ j : Nat, j ≤ 1 ∧ i = .int .i64 j ∧ Below (w2.alloc (.cells #[.int .i64 n] 3)).heap.size (w2.alloc (.cells #[.int .i64 n] 3)) wl) (fun i _ => 1 - (intOf i).toNat)
    case atStart => exact ⟨0, Nat.zero_le _, rfl, Below.refl _ _⟩
    case round =>
      obtain ⟨j, hj, rfl, hb4⟩ := hrel
      have HB4 := hide hb4
      by_cases hlt : j = 0
      · subst hlt
        have c0 : wr.cell? ⟨w2.heap.size, 0, none⟩ = some (.int .i64 n) := by rw [hb4.cell (by simp)]; go_simp
        have hI1 : Hid (InIs n A2 0 c2 [] false) := inIs n _ 0 c2 [] _ rfl (by decide) rfl
        have hI2 : Hid (InIs n A 0 cap [] false) := inIs n _ 0 cap [] _ rfl (by decide) rfl
        have hS : wr.cell? ⟨w2.heap.size, 0, none⟩ = some (.int .i64 n) ∧ Below wr.heap.size wr wr := ⟨c0, Below.refl _ _⟩
        have HS := hide hS
        clear hS hb4
        rw [show ((0 : Nat) : Int) = 0 from rfl]
        go_wp2_with fail
        go_region_held3 (fun W => W.cell? ⟨w2.heap.size, 0, none⟩ = some (.int .i64 n) ∧ Below wr.heap.size wr W)
          (first | exact unhide HS | exact keepP (unhide HS) (belowDrewN 1 (Below.refl _ _)) | exact keepP (by assumption) (by assumption))
          (first
            | (go_at_call 26; refine ((unhide hI1) _ (IvAt.nil _ _)).mono ?_; rintro e w' ⟨rfl, hb⟩)
            | (go_at_call 26; refine ((unhide hI2) _ (IvAt.nil _ _)).mono ?_; rintro e w' ⟨rfl, hb⟩))
        go_wp2_with fail
        go_roundw
        case rel => exact ⟨0 + 1, by omega, by go_num, thenB (unhide HB4) (And.right (by assumption))⟩
        case measure => simp [intOf]
      · obtain rfl : j = 1 := by omega
        clear hb4
        rw [show ((1 : Nat) : Int) = 1 from rfl]
        go_wp2_with fail
        go_loopw [12] (fun i wl => i = .int .i64 0 ∧ wl = wr) (fun _ _ => 0)
        case atStart => exact ⟨rfl, rfl⟩
        case round =>
          obtain ⟨rfl, rfl⟩ := hrel
          go_wp2_with fail
          go_ret
          exact ⟨rfl, (((unhide HB2).alloc (unhide HB2).size _).trans ((unhide HB4).mono (by have := (unhide HB2).size; simp; omega)))⟩

theorem points_any (n at_ : Int) (A : Option Addr) (cap : Nat) (l : List CalI.Iv) (w : World) (hT : Tab w) (hiv : IvAt w A l) (hA : A = none → cap = 0) (hcap : l.length ≤ cap) (hl2 : l.length ≤ 9223372036854775807) (hq : 0 ≤ at_) :
    Calls Tryd.prog 8 #[.slice A l.length cap, .int .i64 n, .int .u64 at_] w (LawOk w) := by
  by_cases hl : l.length ≤ 40
  case neg => exact points_long n at_ A l.length cap w hT (by omega) hl2
  cases hok : allOk l
  · exact points_bad n at_ A cap l.length l w hT rfl hl hiv hok
  by_cases h0 : 0 < l.length
  · obtain ⟨b, off, rfl, hb, hr⟩ := hiv.row h0
    have hm0 := Int.emod_nonneg at_ (show (l.length : Int) ≠ 0 by omega)
    have hm1 := Int.emod_lt_of_pos at_ (show (0 : Int) < l.length by omega)
    exact points_rows n at_ b off cap l.length l w hT rfl h0 hl hcap hq (at_ % (l.length : Int)).toNat (by omega) (by omega) hiv hb hr hok
  · have e0 : l = [] := List.length_eq_zero_iff.1 (by omega)
    subst e0
    exact points_nil n at_ A cap w hT hA
end Go.Proofs.YtbfpbmijmiljlaaDoor
