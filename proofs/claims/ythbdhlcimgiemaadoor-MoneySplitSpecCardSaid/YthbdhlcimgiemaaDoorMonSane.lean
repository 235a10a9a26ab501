/- Contracts over the program of money: the chapter's examples. -/
import Derived.Test.YthbdhlcimgiemaaDoorMonParse
namespace Go.Proofs.YthbdhlcimgiemaaDoor
set_option linter.unusedSimpArgs false
set_option linter.unusedVariables false
open Go.RowKit

theorem split_any (A : Option Addr) (c : Nat) (a : Int) (ws : List Int) (w : World) (hI : It w A ws) (hl : ws.length ≤ 1000000) :
    Calls Tryd.prog 15 #[.int .i64 a, .slice A ws.length c] w (SplitIs a ws w) := by
  by_cases h : Am a
  · by_cases hW : Wok ws
    · exact split_ok A c a ws w h hI hW
    · exact split_bad A c a ws w h hI hW hl
  · exact split_no A c a ws w h
theorem own_it {w : World} {B : Nat} {v : Value} {l : List Int} (h : OwnI w B v l) (hl : ∀ x ∈ l, I64 x) : ∃ A c, v = .slice A l.length c ∧ It w A l ∧ (A = none → c = 0) ∧ l.length ≤ c := by
  unfold OwnI at h
  rcases h.2 with ⟨rfl, h0⟩ | ⟨g, cap, cur, rfl, hb, hg, hn, hm, hs, ht⟩
  · have : l = [] := List.length_eq_zero_iff.1 h0
    subst this
    exact ⟨none, 0, rfl, It.nil, fun _ => rfl, Nat.le_refl _⟩
  · refine ⟨_, cap, rfl, ⟨hl, fun _ => ⟨g, 0, rfl, fun j hj => ?_⟩⟩, (fun e => by cases e), hn⟩
    rw [Nat.zero_add, h.cellAt j (by omega), List.getElem?_map, List.getD_eq_getElem?_getD, List.getElem?_eq_getElem hj]
    rfl
theorem three_it (w : World) (a b c : Int) (ha : I64 a) (hb : I64 b) (hc : I64 c) (t : TypeId) : It (w.alloc (.cells #[.int .i64 a, .int .i64 b, .int .i64 c] t)) (some ⟨w.heap.size, 0, none⟩) [a, b, c] := by
  refine ⟨fun x hx => ?_, fun _ => ⟨_, 0, rfl, fun j hj => ?_⟩⟩
  · simp at hx
    rcases hx with rfl | rfl | rfl <;> assumption
  · simp at hj
    obtain rfl | rfl | rfl : j = 0 ∨ j = 1 ∨ j = 2 := by omega
    · simp
    · simp
    · simp
theorem pair_it (w : World) (a b : Int) (ha : I64 a) (hb : I64 b) (t : TypeId) : It (w.alloc (.cells #[.int .i64 a, .int .i64 b] t)) (some ⟨w.heap.size, 0, none⟩) [a, b] := by
  refine ⟨fun x hx => ?_, fun _ => ⟨_, 0, rfl, fun j hj => ?_⟩⟩
  · simp at hx
    rcases hx with rfl | rfl <;> assumption
  · simp at hj
    obtain rfl | rfl : j = 0 ∨ j = 1 := by omega
    · simp
    · simp
theorem ex_split1 : splitV 100 [1, 1, 1] = [34, 33, 33] := by decide +kernel
theorem ex_split2 : splitV (-5) [1, 3] = [-1, -4] := by decide +kernel
theorem ex_splitE1 : splitE 100 [1, 1, 1] = 0 := by decide +kernel
theorem ex_splitE2 : splitE (-5) [1, 3] = 0 := by decide +kernel
theorem ex_part : partV (-1999) 500 = -999 ∧ partE (-1999) 500 = 0 := by decide +kernel
theorem ex_text : textS (-5) = ⟨#[45, 48, 46, 48, 53]⟩ := by
  unfold textS textB textU
  rw [if_pos (by decide), show (-5 : Int).natAbs / 100 = 0 from rfl, Lib.decDigits_one (by decide)]
  rfl
theorem ex_text2 : textS 123456 = ⟨#[49, 50, 51, 52, 46, 53, 54]⟩ := by
  unfold textS textB textU
  rw [if_neg (by decide), show (123456 : Int).natAbs / 100 = 1234 from rfl, Lib.decDigits, dif_neg (by decide), Lib.decDigits, dif_neg (by decide), Lib.decDigits, dif_neg (by decide), Lib.decDigits_one (by decide)]
  rfl
theorem ex_text3 : textS 0 = ⟨#[48, 46, 48, 48]⟩ := by
  unfold textS textB textU
  rw [if_neg (by decide), show (0 : Int).natAbs / 100 = 0 from rfl, Lib.decDigits_one (by decide)]
  rfl
theorem ex_parse1 : parseV ⟨#[49, 50, 51, 52, 46, 53, 54]⟩ = 123456 ∧ parseE ⟨#[49, 50, 51, 52, 46, 53, 54]⟩ = 0 := parseR_some ((parse_iff _ _).2 ⟨by decide, ex_text2⟩)
theorem ex_parse2 : parseV ⟨#[45, 48, 46, 48, 48]⟩ = 0 ∧ parseE ⟨#[45, 48, 46, 48, 48]⟩ = 50 := by
  refine parseR_none ?_
  cases hc : parseR ⟨#[45, 48, 46, 48, 48]⟩ with
  | none => rfl
  | some m =>
    obtain ⟨h1, h2⟩ := (parse_iff _ m).1 hc
    have h3 := atoi_text h1
    have h4 : textB m = [45, 48, 46, 48, 48] := by
      have := congrArg (fun s : ByteArray => s.data.toList) h2
      simpa [textS] using this
    rw [h4] at h3
    have h5 : Lib.atoiAll (noDot [45, 48, 46, 48, 48]) = .ok 0 := by decide +kernel
    rw [h5] at h3
    injection h3 with h3
    subst h3
    rw [ex_text3] at h2
    exact absurd h2 (by decide)

theorem i64s (x : Int) (h : -1000000 ≤ x) (h2 : x ≤ 1000000) : I64 x := ⟨by omega, by omega⟩
set_option maxRecDepth 100000 in
set_option maxHeartbeats 4000000 in
theorem sane_any (w : World) (hE : Env w) : Calls Tryd.prog 10 #[] w (TrueB w) := by
  have HE := hide hE
  clear hE
  go_enter Tryd.func10, Tryd.ntmps10
  go_wp2_with fail
  generalize hX : World.alloc _ _ = w1
  have hb1 : Below w.heap.size w w1 := hX ▸ (Below.refl _ _).alloc (Nat.le_refl _) _
  have hI1 : It w1 (some ⟨w.heap.size, 0, none⟩) [1, 1, 1] := hX ▸ three_it w 1 1 1 (i64s _ (by decide) (by decide)) (i64s _ (by decide) (by decide)) (i64s _ (by decide) (by decide)) _
  have HB1 := hide hb1
  clear hX hb1
  refine (split_any (some ⟨w.heap.size, 0, none⟩) 3 100 [1, 1, 1] w1 hI1 (by decide)).mono ?_; rintro e w2 ⟨v, rfl, hO, hb2⟩
  rw [ex_split1] at hO
  rw [ex_splitE1]
  obtain ⟨A1, c1, rfl, hIt1, _, _⟩ := own_it hO (by simp [I64])
  have HI1 := hide hIt1
  have HB2 := hide (thenB (unhide HB1) hb2)
  clear hI1 hO hb2 hIt1
  go_wp2_with fail
  generalize hX : World.alloc _ _ = w3
  have hb3 : Below w2.heap.size w2 w3 := hX ▸ (Below.refl _ _).alloc (Nat.le_refl _) _
  have hI3 : It w3 (some ⟨w2.heap.size, 0, none⟩) [1, 3] := hX ▸ pair_it w2 1 3 (i64s _ (by decide) (by decide)) (i64s _ (by decide) (by decide)) _
  have HB3 := hide (thenB (unhide HB2) hb3)
  have HI13 := hide ((unhide HI1).keep hb3)
  clear hX hb3
  refine (split_any (some ⟨w2.heap.size, 0, none⟩) 2 (-5) [1, 3] w3 hI3 (by decide)).mono ?_; rintro e w4 ⟨v, rfl, hO, hb4⟩
  rw [ex_split2] at hO
  rw [ex_splitE2]
  obtain ⟨A2, c2, rfl, hIt2, _, _⟩ := own_it hO (by simp [I64])
  have HI2 := hide hIt2
  have HI14 := hide ((unhide HI13).keep hb4)
  have HB4 := hide (thenB (unhide HB3) hb4)
  clear hI3 hO hb4 hIt2
  go_wp2_with fail
  refine (part_any (-1999) 500 _).mono ?_; rintro e wx ⟨rfl, rfl⟩
  rw [ex_part.1, ex_part.2]
  go_wp2_with fail
  refine (text_any (-5) _ (by decide) ((unhide HE).along (unhide HB4))).mono ?_; rintro e w5 ⟨rfl, hb5⟩
  rw [ex_text]
  have HI15 := hide ((unhide HI14).keep hb5)
  have HI25 := hide ((unhide HI2).keep hb5)
  have HB5 := hide (thenB (unhide HB4) hb5)
  clear hb5
  go_wp2_with fail
  refine (parse_any ⟨#[49, 50, 51, 52, 46, 53, 54]⟩ _ (by decide) ((unhide HE).along (unhide HB5))).mono ?_; rintro e w6 ⟨rfl, hb6⟩
  rw [ex_parse1.1, ex_parse1.2]
  have HI16 := hide ((unhide HI15).keep hb6)
  have HI26 := hide ((unhide HI25).keep hb6)
  have HB6 := hide (thenB (unhide HB5) hb6)
  clear hb6
  go_wp2_with fail
  refine (parse_any ⟨#[45, 48, 46, 48, 48]⟩ _ (by decide) ((unhide HE).along (unhide HB6))).mono ?_; rintro e w7 ⟨rfl, hb7⟩
  rw [ex_parse2.1, ex_parse2.2]
  have HI17 := hide ((unhide HI16).keep hb7)
  have HI27 := hide ((unhide HI26).keep hb7)
  have HB7 := hide (thenB (unhide HB6) hb7)
  clear hb7
  go_wp2_with fail
  generalize hX : World.alloc _ _ = w8
  have hb8 : Below w7.heap.size w7 w8 := hX ▸ (Below.refl _ _).alloc (Nat.le_refl _) _
  have hI8 : It w8 (some ⟨w7.heap.size, 0, none⟩) [34, 33, 33] := hX ▸ three_it w7 34 33 33 (i64s _ (by decide) (by decide)) (i64s _ (by decide) (by decide)) (i64s _ (by decide) (by decide)) _
  have HB8 := hide (thenB (unhide HB7) hb8)
  have HI28 := hide ((unhide HI27).keep hb8)
  have hI18 := (unhide HI17).keep hb8
  clear hX hb8
  refine (same_eq A1 (some ⟨w7.heap.size, 0, none⟩) c1 3 [34, 33, 33] w8 hI18 hI8 (by decide)).mono ?_; rintro e w9 ⟨rfl, hb9⟩
  have HB9 := hide (thenB (unhide HB8) hb9)
  have HI29 := hide ((unhide HI28).keep hb9)
  clear hb9 hI8 hI18
  go_wp2_with fail
  generalize hX : World.alloc _ _ = w10
  have hb10 : Below w9.heap.size w9 w10 := hX ▸ (Below.refl _ _).alloc (Nat.le_refl _) _
  have hI10 : It w10 (some ⟨w9.heap.size, 0, none⟩) [-1, -4] := hX ▸ pair_it w9 (-1) (-4) (i64s _ (by decide) (by decide)) (i64s _ (by decide) (by decide)) _
  have HB10 := hide (thenB (unhide HB9) hb10)
  have hI2x := (unhide HI29).keep hb10
  clear hX hb10
  refine (same_eq A2 (some ⟨w9.heap.size, 0, none⟩) c2 2 [-1, -4] w10 hI2x hI10 (by decide)).mono ?_; rintro e w11 ⟨rfl, hb11⟩
  have HB11 := hide (thenB (unhide HB10) hb11)
  clear hb11 hI10 hI2x
  go_wp2_with fail
  refine (check_no 1125899906842625 _ (by decide)).mono ?_; rintro e w12 ⟨rfl, rfl⟩
  go_wp2_with fail
  go_ret
  exact ⟨rfl, unhide HB11⟩
end Go.Proofs.YthbdhlcimgiemaaDoor
