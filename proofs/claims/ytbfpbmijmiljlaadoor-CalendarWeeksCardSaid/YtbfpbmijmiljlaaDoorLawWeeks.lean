/- The walk of the law CalendarWeeks. -/
import Derived.Test.YtbfpbmijmiljlaaDoorCalDate
import Derived.Test.YtbfpbmijmiljlaaDoorClose
namespace Go.Proofs.YtbfpbmijmiljlaaDoor
set_option linter.unusedSimpArgs false
set_option linter.unusedVariables false
open Go.RowKit Go.LawClose

abbrev WeekIs (n v e : Int) : Prop := ∀ W, Calls Tryd.prog 15 #[.int .i64 n] W fun e' w' => e' = .returned (.tuple #[.int .i64 v, .int .i64 e]) ∧ w' = W
abbrev NextIs (n k v e : Int) : Prop := ∀ W, Calls Tryd.prog 17 #[.int .i64 n, .int .i64 k] W fun e' w' => e' = .returned (.tuple #[.int .i64 v, .int .i64 e]) ∧ w' = W
theorem week_yes {n : Int} (h : CalM.isDay n = true) : WeekIs n ((n + 5) % 7) 0 := fun W => by
  have := weekday_any n W
  rwa [if_pos h] at this
theorem week_no {n : Int} (h : CalM.isDay n = false) : WeekIs n 0 10 := fun W => by
  have := weekday_any n W
  rwa [if_neg (by simp [h])] at this

theorem leap_400 (y : Int) : CalM.leap (y + 400) = CalM.leap y := by
  rw [Bool.eq_iff_iff, CalM.leap_iff, CalM.leap_iff]; omega
theorem ml_400 (y m : Int) : CalM.ml (y + 400) m = CalM.ml y m := by unfold CalM.ml; rw [leap_400]
theorem cum_400 (y m : Int) : CalM.cum (y + 400) m = CalM.cum y m := by unfold CalM.cum; rw [leap_400]
theorem num_400 (y m d : Int) : CalM.num (y + 400) m d = CalM.num y m d + 146097 := by
  unfold CalM.num; rw [cum_400]; unfold CalM.fd; omega
theorem vld_400 (y m d : Int) (h : CalM.vld y m d = true) : CalM.vld (y + 400) m d = true := by
  have := (CalM.vld_iff _ _ _).1 h
  exact (CalM.vld_iff _ _ _).2 ⟨by omega, by omega, by omega, by omega, by rw [ml_400]; omega⟩

set_option maxHeartbeats 1000000 in
theorem weeks_no (n k m : Int) (w : World) (HT : Hid (Tab w)) (hd : n < 0 ∨ 1048576 < n) (HW : Hid (WeekIs n 0 10)) (HN : Hid (NextIs n k m 10)) :
    Calls Tryd.prog 7 #[.int .i64 n, .int .i64 k] w (LawOk w) := by
  go_enter Tryd.func7, Tryd.ntmps7
  go_wp2_with fail
  refine (sane_any _ (unhide HT)).mono ?_; rintro e w1 ⟨rfl, hb1⟩
  go_wp2_with fail
  refine ((unhide HW) _).mono ?_; rintro e w' ⟨rfl, rfl⟩
  go_wp2_with fail
  refine ((unhide HN) _).mono ?_; rintro e w' ⟨rfl, rfl⟩
  go_wp2_with fail
  go_ret
  exact ⟨rfl, hb1⟩

set_option maxHeartbeats 4000000 in
/-- early end: no day 400 years later -/
theorem weeks_late (n k w0 m f v7 e7 v1 e1 : Int) (w : World) (HT : Hid (Tab w)) (h0 : 0 ≤ n) (h1 : n ≤ 1048576) (hl : 1048576 < n + 146097) (hw0 : 0 ≤ w0) (hw1 : w0 ≤ 6)
    (HW : Hid (WeekIs n w0 0)) (HN : Hid (NextIs n k m f)) (HW7 : Hid (WeekIs (n + 7) v7 e7)) (HW1 : Hid (WeekIs (n + 1) v1 e1))
    (h7 : (v7 = w0 ∧ e7 = 0) ∨ e7 = 10) (h1' : (v1 = (w0 + 1) % 7 ∧ e1 = 0) ∨ e1 = 10)
    (hm : (k < 0 ∨ 6 < k ∨ 1048576 < n + 6) ∨ (0 ≤ k ∧ k ≤ 6 ∧ n + 6 ≤ 1048576 ∧ f = 0 ∧ n ≤ m ∧ m ≤ n + 6)) (HWm : Hid (n + 6 ≤ 1048576 → 0 ≤ k → k ≤ 6 → WeekIs m k 0)) :
    Calls Tryd.prog 7 #[.int .i64 n, .int .i64 k] w (LawOk w) := by
  rcases h7 with ⟨rfl, rfl⟩ | rfl
  all_goals rcases h1' with ⟨rfl, rfl⟩ | rfl
  all_goals rcases hm with (hm | hm | hm) | ⟨k0, k1, hn6, rfl, hm0, hm1⟩
  all_goals
    go_enter Tryd.func7, Tryd.ntmps7
    go_wp2_with fail
    refine (sane_any _ (unhide HT)).mono ?_; rintro e w1 ⟨rfl, hb1⟩
    go_wp2_with fail
    refine ((unhide HW) _).mono ?_; rintro e w' ⟨rfl, rfl⟩
    go_wp2_with fail
    refine ((unhide HN) _).mono ?_; rintro e w' ⟨rfl, rfl⟩
    go_wp2_with fail
    refine ((unhide HW7) _).mono ?_; rintro e w' ⟨rfl, rfl⟩
    go_wp2_with fail
    refine ((unhide HW1) _).mono ?_; rintro e w' ⟨rfl, rfl⟩
    go_wp2_with fail
    all_goals first
      | (go_ret; exact ⟨rfl, hb1⟩)
      | (refine ((unhide HWm) hn6 k0 k1 _).mono ?_; rintro e w' ⟨rfl, rfl⟩; go_wp2_with fail; go_ret; exact ⟨rfl, hb1⟩)

set_option maxHeartbeats 4000000 in
theorem weeks_full (n k w0 m f y mo d : Int) (w : World) (HT : Hid (Tab w)) (h0 : 0 ≤ n) (hl : n + 146097 ≤ 1048576) (hw0 : 0 ≤ w0) (hw1 : w0 ≤ 6) (hy : 0 ≤ y ∧ y ≤ 100000)
    (HW : Hid (WeekIs n w0 0)) (HN : Hid (NextIs n k m f)) (HW7 : Hid (WeekIs (n + 7) w0 0)) (HW1 : Hid (WeekIs (n + 1) ((w0 + 1) % 7) 0))
    (HD : Hid (∀ W, Tab W → Calls Tryd.prog 13 #[.int .i64 n] W fun e w' => e = .returned (.tuple #[dateV y mo d, .int .i64 0]) ∧ Below W.heap.size W w'))
    (HD4 : Hid (∀ W, Tab W → Calls Tryd.prog 13 #[.int .i64 (n + 146097)] W fun e w' => e = .returned (.tuple #[dateV (y + 400) mo d, .int .i64 0]) ∧ Below W.heap.size W w'))
    (hm : (k < 0 ∨ 6 < k) ∨ (0 ≤ k ∧ k ≤ 6 ∧ f = 0 ∧ n ≤ m ∧ m ≤ n + 6)) (HWm : Hid (0 ≤ k → k ≤ 6 → WeekIs m k 0)) :
    Calls Tryd.prog 7 #[.int .i64 n, .int .i64 k] w (LawOk w) := by
  obtain ⟨hy0, hy1⟩ := hy
  have heq : ∀ W, (binOp .eql 23 (dateV (y + 400) mo d) (dateV (y + 400) mo d)).run Tryd.prog W = .ok (.bool true) W := fun W => by rw [run_eql_date]; simp
  rcases hm with (hm | hm) | ⟨k0, k1, rfl, hm0, hm1⟩
  all_goals
    go_enter Tryd.func7, Tryd.ntmps7
    go_wp2_with fail
    refine (sane_any _ (unhide HT)).mono ?_; rintro e w1 ⟨rfl, hb1⟩
    go_wp2_with fail
    refine ((unhide HW) _).mono ?_; rintro e w' ⟨rfl, rfl⟩
    go_wp2_with fail
    refine ((unhide HN) _).mono ?_; rintro e w' ⟨rfl, rfl⟩
    go_wp2_with fail
    refine ((unhide HW7) _).mono ?_; rintro e w' ⟨rfl, rfl⟩
    go_wp2_with fail
    refine ((unhide HW1) _).mono ?_; rintro e w' ⟨rfl, rfl⟩
    go_wp2_with fail
    all_goals try (refine ((unhide HWm) k0 k1 _).mono ?_; rintro e w' ⟨rfl, rfl⟩; go_wp2_with fail)
    all_goals
      refine ((unhide HD) _ ((unhide HT).below hb1)).mono ?_; rintro e w2 ⟨rfl, hb2⟩
      have B2 := hb1.trans (hb2.mono hb1.size)
      go_wp2_with fail
      refine ((unhide HD4) _ ((unhide HT).below (B2.alloc B2.size _))).mono ?_; rintro e w3 ⟨rfl, hb3⟩; obtain ⟨hc, hf⟩ := oldCells hb3
      have hz : w2.heap.size < w3.heap.size := by have := hb3.size; simp at this; omega
      have B3 : Below w.heap.size w w3 := (B2.alloc B2.size _).trans (hb3.mono (by have := B2.size; simp; omega))
      have hs2 := B2.size
      have HB := hide B3; clear B2 B3 hb1 hb2 hb3
      go_wp2_with fail
      go_ret
      refine ⟨rfl, ?_⟩
      first
        | exact ((unhide HB).alloc (unhide HB).size _).setCell (p := ⟨w2.heap.size, 0, none⟩) hs2 _
        | exact ((unhide HB).setCell (p := ⟨w2.heap.size, 0, none⟩) hs2 _).alloc (by simpa [World.setCell] using (unhide HB).size) _

theorem weeks_any (n k : Int) (w : World) (hT : Tab w) :
    Calls Tryd.prog 7 #[.int .i64 n, .int .i64 k] w (LawOk w) := by
  cases hd : CalM.isDay n
  · have hn : nextR n k = .tuple #[.int .i64 0, .int .i64 10] := by simp [nextR, hd]
    have hd2 : n < 0 ∨ 1048576 < n := by
      by_cases h : 0 ≤ n ∧ n ≤ 1048576
      · rw [(CalM.isDay_iff n).2 h] at hd; cases hd
      · omega
    exact weeks_no n k 0 w hT hd2 (week_no hd) (fun W => hn ▸ next_any n k W)
  · have hn := (CalM.isDay_iff n).1 hd
    have hw0 : 0 ≤ (n + 5) % 7 := by omega
    have hw1 : (n + 5) % 7 ≤ 6 := by omega
    have hHW := week_yes hd
    obtain ⟨m, f, hnx⟩ := nextR_form n k
    have hHN : NextIs n k m f := fun W => hnx ▸ next_any n k W
    have hm : (0 ≤ k ∧ k ≤ 6 ∧ n + 6 ≤ 1048576) → (f = 0 ∧ n ≤ m ∧ m ≤ n + 6 ∧ (m + 5) % 7 = k) := by
      rintro ⟨k0, k1, hn6⟩
      unfold nextR at hnx
      rw [if_pos hd, if_pos ⟨k0, by omega⟩, if_pos ((CalM.isDay_iff _).2 ⟨by omega, by omega⟩)] at hnx
      simp only [Value.tuple.injEq, Array.mk.injEq, List.cons.injEq, Value.int.injEq, true_and, and_true] at hnx
      omega
    have hHWm : n + 6 ≤ 1048576 → 0 ≤ k → k ≤ 6 → WeekIs m k 0 := fun a b c => by
      obtain ⟨_, h1, h2, h3⟩ := hm ⟨b, c, a⟩
      have := week_yes (n := m) ((CalM.isDay_iff _).2 ⟨by omega, by omega⟩)
      rwa [h3] at this
    by_cases hl : n + 146097 ≤ 1048576
    · obtain ⟨y, mo, d, hv, hnum⟩ : ∃ y mo d, CalM.vld y mo d = true ∧ CalM.num y mo d = n := by
        obtain ⟨e, w', fr, ⟨y, mo, d, _, hv, hnum, _⟩, _⟩ := date_yes n w hT hd []
        exact ⟨y, mo, d, hv, hnum⟩
      have hdv : CalM.isDay (n + 146097) = true := (CalM.isDay_iff _).2 ⟨by omega, hl⟩
      have e1 : dateR n = .tuple #[dateV y mo d, .int .i64 0] := by simp [dateR, hd, dateOf_eq hv hnum]
      have e2 : dateR (n + 146097) = .tuple #[dateV (y + 400) mo d, .int .i64 0] := by
        simp [dateR, hdv, dateOf_eq (vld_400 y mo d hv) (by rw [num_400, hnum])]
      have hyb := CalM.vld_year y mo d hv (by omega)
      have hyl := ((CalM.vld_iff _ _ _).1 hv).1
      have h7 := week_yes (n := n + 7) ((CalM.isDay_iff _).2 ⟨by omega, by omega⟩)
      have h1 := week_yes (n := n + 1) ((CalM.isDay_iff _).2 ⟨by omega, by omega⟩)
      rw [show (n + 7 + 5) % 7 = (n + 5) % 7 by omega] at h7
      rw [show (n + 1 + 5) % 7 = ((n + 5) % 7 + 1) % 7 by omega] at h1
      exact weeks_full n k _ m f y mo d w hT hn.1 hl hw0 hw1 ⟨by omega, by omega⟩ hHW hHN h7 h1 (fun W hW => e1 ▸ date_any n W hW) (fun W hW => e2 ▸ date_any (n + 146097) W hW)
        (by
          by_cases a : 0 ≤ k ∧ k ≤ 6
          · obtain ⟨b1, b2, b3, _⟩ := hm ⟨a.1, a.2, by omega⟩
            exact .inr ⟨a.1, a.2, b1, b2, b3⟩
          · exact .inl (by omega)) (fun a b => hHWm (by omega) a b)
    · obtain ⟨v7, e7, hH7, h7⟩ : ∃ v7 e7, WeekIs (n + 7) v7 e7 ∧ ((v7 = (n + 5) % 7 ∧ e7 = 0) ∨ e7 = 10) := by
        cases h : CalM.isDay (n + 7)
        · exact ⟨0, 10, week_no h, .inr rfl⟩
        · exact ⟨_, 0, week_yes h, .inl ⟨by omega, rfl⟩⟩
      obtain ⟨v1, e1, hH1, h1⟩ : ∃ v1 e1, WeekIs (n + 1) v1 e1 ∧ ((v1 = ((n + 5) % 7 + 1) % 7 ∧ e1 = 0) ∨ e1 = 10) := by
        cases h : CalM.isDay (n + 1)
        · exact ⟨0, 10, week_no h, .inr rfl⟩
        · exact ⟨_, 0, week_yes h, .inl ⟨by omega, rfl⟩⟩
      exact weeks_late n k _ m f v7 e7 v1 e1 w hT hn.1 hn.2 (by omega) hw0 hw1 hHW hHN hH7 hH1 h7 h1
        (by
          by_cases a : 0 ≤ k ∧ k ≤ 6 ∧ n + 6 ≤ 1048576
          · obtain ⟨b1, b2, b3, _⟩ := hm a
            exact .inr ⟨a.1, a.2.1, a.2.2, b1, b2, b3⟩
          · exact .inl (by omega)) hHWm

end Go.Proofs.YtbfpbmijmiljlaaDoor
