/- The walk of the law CalendarListSpec. -/
import Derived.Test.YtbfpbmijmiljlaaDoorLawMeets
import Derived.Test.YtbfpbmijmiljlaaDoorCalRMeet
import Derived.Test.YtbfpbmijmiljlaaDoorCalRUnion
import Derived.Deep.RegionHeld3
namespace Go.Proofs.YtbfpbmijmiljlaaDoor
set_option linter.unusedSimpArgs false
set_option linter.unusedVariables false
open Go.RowKit Go.LawClose

abbrev RMeetIs (a b c d x1 x2 : Int) (ok : Bool) : Prop := ∀ W, Calls Tryd.prog 20 #[ivV a b, ivV c d] W fun e w' => e = .returned (.tuple #[ivV x1 x2, .bool ok]) ∧ Below W.heap.size W w'
def HoldsL (w : World) (A : Option Addr) (n : Nat) (u : List CalI.Iv) : Prop := n = u.length ∧ IvAt w A u

theorem keepS {w5 wp wn : World} {p1 p2 p3 p4 p5 p6 : Addr} {v1 v2 v3 v4 v5 v6 : Value} (h : (wp.cell? p1 = some v1 ∧ wp.cell? p2 = some v2 ∧ wp.cell? p3 = some v3 ∧ wp.cell? p4 = some v4 ∧ wp.cell? p5 = some v5 ∧ wp.cell? p6 = some v6) ∧ Below w5.heap.size w5 wp)
    (hb : Below wp.heap.size wp wn) : (wn.cell? p1 = some v1 ∧ wn.cell? p2 = some v2 ∧ wn.cell? p3 = some v3 ∧ wn.cell? p4 = some v4 ∧ wn.cell? p5 = some v5 ∧ wn.cell? p6 = some v6) ∧ Below w5.heap.size w5 wn := by
  have k : ∀ {p v}, wp.cell? p = some v → wn.cell? p = some v := fun {p v} h => (hb.cell (World.block_lt_of_cell? wp p h)).trans h
  obtain ⟨⟨h1, h2, h3, h4, h5, h6⟩, h7⟩ := h
  exact ⟨⟨k h1, k h2, k h3, k h4, k h5, k h6⟩, h7.trans (hb.mono h7.size)⟩
theorem same_self (A A' : Option Addr) (c c' : Nat) (u : List CalI.Iv) (w : World) (h : IvAt w A u) (h' : IvAt w A' u) (hn : u.length ≤ 1000) :
    Calls Tryd.prog 25 #[.slice A u.length c, .slice A' u.length c'] w fun e w' => e = .returned (.bool true) ∧ Below w.heap.size w w' := by
  refine (same_any A A' c c' u u w h h' (by omega) (by omega)).mono ?_
  rintro e w' ⟨rfl, q, rfl⟩
  exact ⟨by simp, belowDrewN _ (Below.refl _ _)⟩

set_option maxHeartbeats 4000000 in
theorem list_long (a b c d n : Int) (A : Option Addr) (len cap : Nat) (w : World) (HT : Hid (Tab w)) (hl : 60 < len) (hl2 : len ≤ 9223372036854775807) :
    Calls Tryd.prog 4 #[ivV a b, ivV c d, .slice A len cap, .int .i64 n] w (LawOk w) := by
  have hd : decide ((60 : Int) < len) = true := by simp; omega
  go_enter Tryd.func4, Tryd.ntmps4
  go_wp2_with fail
  refine (sane_any _ ((unhide HT).below (by go_grown))).mono ?_; rintro e w1 ⟨rfl, hb1⟩
  have HA1 := hide hb1; clear hb1
  have HW1 : Hid (Below w.heap.size w w1) := (show Below w.heap.size w ((w.alloc _).alloc _) from by go_grown).trans ((unhide HA1).mono (by simp; omega))
  obtain ⟨hc, hf⟩ := oldCells (unhide HA1)
  have hz : w.heap.size + 1 < w1.heap.size := by have := (unhide HA1).size; simp at this; omega
  have hz0 : w.heap.size < w1.heap.size := by omega
  go_wp2_with fail
  go_ret
  exact ⟨rfl, unhide HW1⟩

set_option maxHeartbeats 8000000 in
theorem list_short (a b c d n x1 x2 r q : Int) (ok i : Bool) (A : Option Addr) (len cap : Nat) (l u : List CalI.Iv) (w : World) (HT : Hid (Tab w)) (hl : len ≤ 60) (HL : Hid (l.length = len)) (HIV : Hid (IvAt w A l)) (HUL : Hid (u.length ≤ 1000))
    (HM : Hid (MeetIs a b c d x1 x2 ok)) (HRM : Hid (RMeetIs a b c d x1 x2 ok))
    (HU : Hid (∀ W, IvAt W A l → Calls Tryd.prog 21 #[.slice A len cap] W fun e w' => ∃ A1 c1, e = .returned (.tuple #[.slice A1 u.length c1, .int .i64 r]) ∧ IvAt w' A1 u ∧ Below W.heap.size W w'))
    (HRU : Hid (∀ W, IvAt W A l → Calls Tryd.prog 22 #[.slice A len cap] W fun e w' => ∃ A1 c1, e = .returned (.tuple #[.slice A1 u.length c1, .int .i64 r]) ∧ IvAt w' A1 u ∧ Below W.heap.size W w'))
    (HC : Hid (∀ W, Calls Tryd.prog 23 #[ivV a b] W fun e w' => e = .returned (.int .i64 q) ∧ Below W.heap.size W w')) (HRC : Hid (∀ W, Calls Tryd.prog 24 #[ivV a b] W fun e w' => e = .returned (.int .i64 q) ∧ Below W.heap.size W w'))
    (HI : Hid (∀ W, IvAt W A l → Calls Tryd.prog 26 #[.int .i64 n, .slice A len cap] W fun e w' => e = .returned (.bool i) ∧ Below W.heap.size W w'))
    (HRI : Hid (∀ W, IvAt W A l → Calls Tryd.prog 27 #[.int .i64 n, .slice A len cap] W fun e w' => e = .returned (.bool i) ∧ Below W.heap.size W w')) :
    Calls Tryd.prog 4 #[ivV a b, ivV c d, .slice A len cap, .int .i64 n] w (LawOk w) := by
  have heq : ∀ W, (binOp .eql 34 (ivV x1 x2) (ivV x1 x2)).run Tryd.prog W = .ok (.bool true) W := fun W => by rw [run_eql_iv]; simp
  have hd : decide ((60 : Int) < len) = false := by simp; omega
  go_enter Tryd.func4, Tryd.ntmps4
  go_wp2_with fail
  refine (sane_any _ ((unhide HT).below (by go_grown))).mono ?_; rintro e w1 ⟨rfl, hb1⟩
  have HA1 := hide hb1; clear hb1
  have HW1 : Hid (Below w.heap.size w w1) := (show Below w.heap.size w ((w.alloc _).alloc _) from by go_grown).trans ((unhide HA1).mono (by simp; omega))
  obtain ⟨hc, hf⟩ := oldCells (unhide HA1)
  have hz : w.heap.size + 1 < w1.heap.size := by have := (unhide HA1).size; simp at this; omega
  have hz0 : w.heap.size < w1.heap.size := by omega
  go_wp2_with fail
  refine ((unhide HM) _).mono ?_; rintro e w2 ⟨rfl, hb⟩
  have HA2 := hide (thenB (unhide HA1) hb); have HW2 := hide (thenW (unhide HW1) hb); clear hb hc hf
  obtain ⟨hc, hf⟩ := oldCells (unhide HA2)
  have hy2 : w.heap.size + 1 < w2.heap.size := by have := (unhide HA2).size; simp at this; omega
  have hy20 : w.heap.size < w2.heap.size := by omega
  go_wp2_with fail
  refine ((unhide HRM) _).mono ?_; rintro e w3 ⟨rfl, hb⟩
  have HX3 := hide hb; have HA3 := hide (adv (unhide HA2) hb); have HW3 := hide (advW (unhide HW2) hb); clear hb hc hf
  go_wp2_with fail
  refine ((unhide HU) _ (((unhide HIV).below (unhide HW3)).below (by go_grown))).mono ?_; rintro e w4 ⟨A4, c4, rfl, hu4, hb⟩
  have HU4 := hide hu4; have HY4 := hide hb; have HX4 := hide (adv (unhide HX3) hb); have HA4 := hide (adv (unhide HA3) hb); have HW4 := hide (advW (unhide HW3) hb); clear hb hu4
  go_wp2_with fail
  refine ((unhide HRU) _ ((unhide HIV).below (unhide HW4))).mono ?_; rintro e w5 ⟨A5, c5, rfl, hu5, hb⟩
  have HU5 := hide hu5; have HU45 := hide ((unhide HU4).below hb); have HY5 := hide (thenB (unhide HY4) hb); have HX5 := hide (thenB (unhide HX4) hb); have HA5 := hide (thenB (unhide HA4) hb); have HW5 := hide (thenW (unhide HW4) hb); clear hb hu5
  have ha0 : w5.cell? ⟨w.heap.size, 0, none⟩ = some (.int .i64 a) := by rw [(unhide HA5).cell (by simp; omega)]; go_simp
  have ha1 : w5.cell? ⟨w.heap.size, 1, none⟩ = some (.int .i64 b) := by rw [(unhide HA5).cell (by simp; omega)]; go_simp
  have hx0 : w5.cell? ⟨w2.heap.size, 0, none⟩ = some (.int .i64 x1) := by rw [(unhide HX5).cell (by simp)]; go_simp
  have hx1 : w5.cell? ⟨w2.heap.size, 1, none⟩ = some (.int .i64 x2) := by rw [(unhide HX5).cell (by simp)]; go_simp
  have hy0 : w5.cell? ⟨w3.heap.size, 0, none⟩ = some (.int .i64 x1) := by rw [(unhide HY5).cell (by simp)]; go_simp
  have hy1 : w5.cell? ⟨w3.heap.size, 1, none⟩ = some (.int .i64 x2) := by rw [(unhide HY5).cell (by simp)]; go_simp
  go_wp2_with fail
  have hS5 : (w5.cell? ⟨w.heap.size, 0, none⟩ = some (.int .i64 a) ∧ w5.cell? ⟨w.heap.size, 1, none⟩ = some (.int .i64 b) ∧ w5.cell? ⟨w2.heap.size, 0, none⟩ = some (.int .i64 x1) ∧ w5.cell? ⟨w2.heap.size, 1, none⟩ = some (.int .i64 x2) ∧ w5.cell? ⟨w3.heap.size, 0, none⟩ = some (.int .i64 x1) ∧ w5.cell? ⟨w3.heap.size, 1, none⟩ = some (.int .i64 x2)) ∧ Below w5.heap.size w5 w5 :=
    ⟨⟨ha0, ha1, hx0, hx1, hy0, hy1⟩, Below.refl _ _⟩
  have HS5 := hide hS5; clear hS5 ha0 ha1 hx0 hx1 hy0 hy1
  go_region_held3 (fun W => (W.cell? ⟨w.heap.size, 0, none⟩ = some (.int .i64 a) ∧ W.cell? ⟨w.heap.size, 1, none⟩ = some (.int .i64 b) ∧ W.cell? ⟨w2.heap.size, 0, none⟩ = some (.int .i64 x1) ∧ W.cell? ⟨w2.heap.size, 1, none⟩ = some (.int .i64 x2) ∧ W.cell? ⟨w3.heap.size, 0, none⟩ = some (.int .i64 x1) ∧ W.cell? ⟨w3.heap.size, 1, none⟩ = some (.int .i64 x2)) ∧ Below w5.heap.size w5 W)
    (first | exact unhide HS5 | exact keepS (unhide HS5) (belowDrewN 1 (Below.refl _ _)) | exact keepS (by assumption) (by assumption))
    (first
      | (go_at_call 23; refine ((unhide HC) _).mono ?_; rintro e w' ⟨rfl, hb⟩)
      | (go_at_call 24; refine ((unhide HRC) _).mono ?_; rintro e w' ⟨rfl, hb⟩)
      | (go_at_call 25; refine (same_self _ _ _ _ _ _ ((unhide HU45).below (And.right (by assumption))) ((unhide HU5).below (And.right (by assumption))) (unhide HUL)).mono ?_; rintro e w' ⟨rfl, hb⟩)
      | (go_at_call 26; refine ((unhide HI) _ (((unhide HIV).below (unhide HW5)).below (And.right (by assumption)))).mono ?_; rintro e w' ⟨rfl, hb⟩)
      | (go_at_call 27; refine ((unhide HRI) _ (((unhide HIV).below (unhide HW5)).below (And.right (by assumption)))).mono ?_; rintro e w' ⟨rfl, hb⟩))
  go_wp2_with fail
  go_ret
  refine ⟨by first | rfl | simp, (unhide HW5).trans ((show Below w5.heap.size w5 _ from And.right (by assumption)).mono (unhide HW5).size)⟩

theorem allOk_first : ∀ (l : List CalI.Iv), allOk l = false → ∃ m, m < l.length ∧ allOk (l.take m) = true ∧ ∃ x, l[m]? = some x ∧ ivOk x.1 x.2 = false
  | [], h => by simp [allOk] at h
  | x :: r, h => by
    cases hx : ivOk x.1 x.2
    · exact ⟨0, by simp, rfl, x, rfl, hx⟩
    · have hr : allOk r = false := by
        simp only [allOk, List.all_cons, hx, Bool.true_and] at h
        exact h
      obtain ⟨m, h1, h2, y, h3, h4⟩ := allOk_first r hr
      refine ⟨m + 1, by simp; omega, ?_, y, by simpa using h3, h4⟩
      simp only [allOk, List.take_succ_cons, List.all_cons, hx, Bool.true_and]
      exact h2

set_option maxHeartbeats 1000000 in
theorem refUnion_zero (A : Option Addr) (c : Nat) (w : World) :
    Calls Tryd.prog 22 #[.slice A 0 c] w fun e w' => ∃ A1 c1, e = .returned (.tuple #[.slice A1 0 c1, .int .i64 0]) ∧ IvAt w' A1 [] ∧ Below w.heap.size w w' := by
  go_enter Tryd.func22, Tryd.ntmps22
  go_wp2
  go_loopw [4, 5] (fun v i wr => v = .slice (some ⟨w.heap.size, 0, none⟩) 0 0 ∧ i = .int .i64 0 ∧ wr = w.alloc (.cells #[] 34)) (fun _ _ _ => 0)
  case atStart => exact ⟨rfl, rfl, rfl⟩
  case round =>
    obtain ⟨rfl, rfl, rfl⟩ := hrel
    go_wp2_with fail
    go_ret2
    exact ⟨_, _, rfl, IvAt.nil _ _, by go_grown⟩

theorem refUnion_ok (A : Option Addr) (c : Nat) (l u : List CalI.Iv) (W : World) (h : IvAt W A l) (hn : l.length ≤ 60) (hok : allOk l = true) (hu : CalI.IsUnion l u) :
    Calls Tryd.prog 22 #[.slice A l.length c] W fun e w' => ∃ A1 c1, e = .returned (.tuple #[.slice A1 u.length c1, .int .i64 0]) ∧ IvAt w' A1 u ∧ Below W.heap.size W w' := by
  have e : l.foldl CalI.addS [] = u := (CalI.refUnion_spec l (allOk_bd hok).2).unique hu
  by_cases h0 : 0 < l.length
  · obtain ⟨b, off, rfl, hb, hr⟩ := h.row h0
    refine (refUnion_rows b off c l.length l.length l W rfl (by omega) (fun _ => hb) (Nat.le_refl _) (by rwa [List.take_of_length_le (Nat.le_refl _)]) (fun h => absurd h (by omega)) hr).mono ?_
    rintro e' w' ⟨_, h2, hbl⟩
    obtain ⟨g, cc, he, hi⟩ := h2 rfl
    rw [e] at he hi
    exact ⟨_, cc, he, hi, hbl⟩
  · have e0 : l = [] := List.length_eq_zero_iff.1 (by omega)
    subst e0
    have eu : u = [] := by rw [← e]; rfl
    subst eu
    exact refUnion_zero A c W

theorem refUnion_bad (A : Option Addr) (c : Nat) (l : List CalI.Iv) (W : World) (h : IvAt W A l) (hn : l.length ≤ 60) (hok : allOk l = false) :
    Calls Tryd.prog 22 #[.slice A l.length c] W fun e w' => ∃ A1 c1, e = .returned (.tuple #[.slice A1 0 c1, .int .i64 10]) ∧ IvAt w' A1 [] ∧ Below W.heap.size W w' := by
  obtain ⟨m, hm, hpre, hbad⟩ := allOk_first l hok
  obtain ⟨b, off, rfl, hb, hr⟩ := h.row (by omega)
  refine (refUnion_rows b off c l.length m l W rfl (by omega) (fun _ => hb) (by omega) hpre (fun _ => hbad) hr).mono ?_
  rintro e' w' ⟨h1, _, hbl⟩
  exact ⟨none, 0, h1 hm, IvAt.nil _ _, hbl⟩

theorem meetR_form (a b c d : Int) : ∃ x1 x2 ok, meetR a b c d = .tuple #[ivV x1 x2, .bool ok] := by
  unfold meetR
  split
  · exact ⟨_, _, _, rfl⟩
  · exact ⟨_, _, _, rfl⟩

theorem list_any (a b c d n : Int) (A : Option Addr) (cap : Nat) (l : List CalI.Iv) (w : World) (hT : Tab w) (hiv : IvAt w A l) (hA : A = none → cap = 0) (hl2 : l.length ≤ 9223372036854775807) :
    Calls Tryd.prog 4 #[ivV a b, ivV c d, .slice A l.length cap, .int .i64 n] w (LawOk w) := by
  by_cases hl : l.length ≤ 60
  case neg => exact list_long a b c d n A l.length cap w hT (by omega) hl2
  obtain ⟨x1, x2, ok, hm⟩ := meetR_form a b c d
  have hM : MeetIs a b c d x1 x2 ok := fun W => hm ▸ meet_any a b c d W
  have hRM : RMeetIs a b c d x1 x2 ok := fun W => hm ▸ refMeet_any a b c d W
  have hC := fun W => check_any a b W
  have hRC := fun W => refCheck_any a b W
  have hI := fun (W : World) (hW : IvAt W A l) => in_any A cap n l W hW (by omega)
  have hRI : ∀ W, IvAt W A l → Calls Tryd.prog 27 #[.int .i64 n, .slice A l.length cap] W fun e w' => e = .returned (.bool (inB l n)) ∧ Below W.heap.size W w' := fun W hW =>
    (refIn_any A cap n l W hW (by omega)).mono fun e w' ⟨he, q, hq⟩ => ⟨he, hq ▸ belowDrewN _ (Below.refl _ _)⟩
  cases hok : allOk l
  · exact list_short a b c d n x1 x2 10 _ ok _ A l.length cap l [] w hT hl rfl hiv (show (0 : Nat) ≤ 1000 by decide) hM hRM
      (fun W hW => (union_bad A cap l W hW (by omega) hok).mono fun e w' ⟨he, hb⟩ => ⟨none, 0, he, IvAt.nil _ _, hb⟩)
      (fun W hW => refUnion_bad A cap l W hW hl hok) hC hRC hI hRI
  · have hu := CalI.refUnion_spec l (allOk_bd hok).2
    have hlen := foldA_len l []
    refine list_short a b c d n x1 x2 0 _ ok _ A l.length cap l (l.foldl CalI.addS []) w hT hl rfl hiv (show _ ≤ 1000 by simp at hlen; omega) hM hRM
      (fun W hW => (union_any A cap l W hW (by omega) hA hok).mono ?_) (fun W hW => refUnion_ok A cap l _ W hW hl hok hu) hC hRC hI hRI
    rintro e w' ⟨u, A1, c1, he, hu1, hun, _, _, hb⟩
    have eu := hun.unique hu
    subst eu
    exact ⟨A1, c1, he, hu1, hb⟩

end Go.Proofs.YtbfpbmijmiljlaaDoor
