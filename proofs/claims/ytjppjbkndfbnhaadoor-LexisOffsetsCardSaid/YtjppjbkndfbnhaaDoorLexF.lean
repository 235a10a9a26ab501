/- Contracts over the program of lexis: the scanner takes an integer, a quoted text, a token. -/
import Derived.Test.YtjppjbkndfbnhaaDoorLexE
import Derived.Test.YtjppjbkndfbnhaaDoorLexTok
import Derived.Deep.RegionWith
namespace Go.Proofs.YtjppjbkndfbnhaaDoor
set_option linter.unusedSimpArgs false
set_option linter.unusedVariables false
open Go.RowKit

/-- no quoted text begins between two offsets -/
def Kn (s : ByteArray) (k un : Nat) : Prop := ∀ j, k ≤ j → j < un → (L s).getD j 0 = 34 → Lx.qb ((L s).drop (j + 1)) = none
theorem Kn.mono {s : ByteArray} {k k' un : Nat} (h : Kn s k un) (hk : k ≤ k') : Kn s k' un := fun j hj => h j (Nat.le_trans hk hj)
theorem undrew {B n : Nat} {w w1 : World} (h : Below B (w.drewN n) w1) : Below B w w1 := ⟨h.os, h.tape, h.output, h.size, h.block⟩
/-- how a take ends, for what the text begins with -/
def TakeIs (b : Nat) (s : ByteArray) (k : Nat) (x : Nat × List Lx.B × Nat) (w : World) (e : Ending) (w' : World) : Prop :=
  ∃ (t : ByteArray) (un : Nat), e = .returned (.tuple #[.int .i64 (x.1 : Int), .string t]) ∧ (x.1 ≠ 0 → t = ⟨x.2.1.toArray⟩) ∧ Sc w' b s (k + x.2.2) un ∧ Kn s (k + x.2.2) un ∧ un ≤ s.size ∧ But b w w'
theorem ext_take (s : ByteArray) (k n : Nat) : s.extract k (k + n) = ⟨(((L s).drop k).take n).toArray⟩ := by
  have h : L (s.extract k (k + n)) = L ⟨(((L s).drop k).take n).toArray⟩ := by rw [L_extract, List.drop_take, Nat.add_sub_cancel_left, L_mk]
  exact L_eq h
theorem ext_tail (s : ByteArray) (k : Nat) : s.extract k s.size = ⟨((L s).drop k).toArray⟩ := by
  have h : L (s.extract k s.size) = L ⟨((L s).drop k).toArray⟩ := by rw [L_tail, L_mk]
  exact L_eq h
theorem trim_any (s : ByteArray) (k : Nat) (w : World) : ∃ d : ByteArray, L d = Lx.unMinus ((L s).drop k) ∧ d.size ≤ s.size - k ∧ Calls Tryd.prog 61 #[.string (s.extract k s.size), .string ⟨#[45]⟩] w fun e w' => e = .returned (.string d) ∧ w' = w := by
  have ht := Tryd.strings_TrimPrefix (s.extract k s.size) ⟨#[45]⟩ w
  rw [show Lib.trimPrefix (s.extract k s.size).data.toList (⟨#[45]⟩ : ByteArray).data.toList = Lx.unMinus ((L s).drop k) from by rw [← L_tail]; exact trim_minus _] at ht
  refine ⟨⟨(Lx.unMinus ((L s).drop k)).toArray⟩, L_mk _, ?_, ht⟩
  have := unMinus_len ((L s).drop k)
  rw [List.length_drop, L_len] at this
  show (Lx.unMinus ((L s).drop k)).toArray.size ≤ _
  rw [List.size_toArray]
  exact this
set_option maxRecDepth 100000 in
set_option maxHeartbeats 4000000 in
theorem takeInt_any (b : Nat) (s : ByteArray) (k un : Nat) (w : World) (h : Sc w b s k un) (hK : Kn s k un) (hun : un ≤ s.size) (hk : k < s.size) (hs : s.size ≤ 1000000) (hT : Tab w) (hne : 0 ≠ b) (hc : Lx.cls s[k] = 2 ∨ Lx.cls s[k] = 8) :
    Calls Tryd.prog 44 #[.pointer (some ⟨b, 0, none⟩)] w (TakeIs b s k (Lx.tok1 ((L s).drop k)) w) := by
  have hd := L_drop s k hk
  obtain ⟨d, hdL, hds, _⟩ := trim_any s k w
  have htr := fun W : World => (trim_any s k W)
  have htr : ∀ W : World, Calls Tryd.prog 61 #[.string (s.extract k s.size), .string ⟨#[45]⟩] W fun e w' => e = .returned (.string d) ∧ w' = W := fun W => by
    obtain ⟨d', h1, _, h2⟩ := htr W
    obtain rfl : d' = d := L_eq (h1.trans hdL.symm)
    exact h2
  have hsd := fun W (hW : Tab W) => span_dig d W hW (by omega)
  have hsi := fun W (hW : Tab W) => span_inn d W hW (by omega)
  have hsl := Lx.spanN_le Lx.isInn (L d)
  rw [L_len] at hsl
  have hlen : (s.extract k s.size).size = s.size - k := by rw [ByteArray.size_extract]; omega
  have hdl := L_len d
  rw [hdL] at hdl
  have hll : ((L s).drop k).length = s.size - k := by rw [List.length_drop, L_len]
  have H0 := hide h
  have HT := hide hT
  have HNE := hide hne
  have HTR := hide htr
  have hn0 := fun W (hW : Sc W b s k un) (n : Nat) (hn : k + n ≤ s.size) => advance_any b s k n un W hW hn hs
  have HA := hide hn0
  obtain ⟨c0, c1, c2, f1, f2, hlt⟩ := h
  by_cases h0 : Lx.spanN Lx.isDig (L d) = 0
  · rw [hd, Lx.tok_num0 hc (by rw [← hd, ← hdL]; exact h0)]
    rw [h0] at hsd
    have HS := hide hsd
    clear hsd hsi hd hdL hc htr hn0 h0 hT hne hdl hll hlen
    go_enter Tryd.func44, Tryd.ntmps44
    go_wp2_with fail
    go_quiet (fail)
    go_wp2_with fail
    refine ((unhide HTR) _).mono ?_; rintro e w' ⟨rfl, rfl⟩
    go_wp2_with fail
    refine ((unhide HS) _ ((unhide HT).drewN _)).mono ?_; rintro e w' ⟨rfl, rfl⟩
    go_wp2_with fail
    refine ((unhide HA) _ ((unhide H0).drewN _) 1 (by omega)).mono ?_; rintro e w' ⟨rfl, hs1, hb1⟩
    have HS1 := hide hs1
    have HB1 := hide hb1
    clear hs1 hb1
    go_wp2_with fail
    go_ret2
    exact ⟨_, un, rfl, fun h => absurd rfl h, unhide HS1, hK.mono (by omega), hun, ((But.refl _ _).drewN _).trans (unhide HB1)⟩
  · obtain ⟨hle, htk⟩ := Lx.tok_num (r := (L s).drop (k + 1)) hc (by rw [← hd, ← hdL]; exact h0)
    rw [← hd, ← hdL, L_len, hll] at hle htk
    rw [htk]
    have hii := fun W (hW : Tab W) => integer_any (s.extract k (k + (s.size - k - d.size + Lx.spanN Lx.isInn (L d)))) W hW (by rw [ByteArray.size_extract]; omega)
    have hex := ext_take s k (s.size - k - d.size + Lx.spanN Lx.isInn (L d))
    rw [L_extract, List.drop_take, Nat.add_sub_cancel_left] at hii
    generalize Lx.spanN Lx.isDig (L d) = nd at hsd h0
    have hnd : ((nd : Int) == 0) = false := by rw [beq_eq_false_iff_ne]; omega
    have hnd' : ¬ (nd : Int) = 0 := by omega
    generalize hni : Lx.spanN Lx.isInn (L d) = ni at hsi hle htk hii hex hsl
    obtain ⟨n, hn⟩ : ∃ n, n = s.size - k - d.size + ni := ⟨_, rfl⟩
    rw [← hn] at hle htk hii hex ⊢
    have HN := hide (show ((s.size - k : Nat) : Int) - (d.size : Int) + (ni : Int) = (n : Int) by omega)
    have HS := hide hsd; have HI := hide hsi; have HII := hide hii; have HEX := hide hex
    clear hsd hsi hd hdL hc htr hn0 h0 hT hne hdl hll hlen htk hii hex hni hn
    cases hb : Lx.intP (((L s).drop k).take n)
    · have HB := hide hb
      rw [if_neg (by decide)]
      clear hb
      go_enter Tryd.func44, Tryd.ntmps44
      go_wp2_with fail
      go_quiet (fail)
      go_wp2_with fail
      refine ((unhide HTR) _).mono ?_; rintro e w' ⟨rfl, rfl⟩
      go_wp2_with fail
      refine ((unhide HS) _ ((unhide HT).drewN _)).mono ?_; rintro e w' ⟨rfl, rfl⟩
      go_wp2_with fail
      refine ((unhide HI) _ ((unhide HT).drewN _)).mono ?_; rintro e w' ⟨rfl, rfl⟩
      go_wp2_with fail
      rw [unhide HN]
      refine ((unhide HA) _ ((unhide H0).drewN _) n (by omega)).mono ?_; rintro e w' ⟨rfl, hs1, hb1⟩
      have HS1 := hide hs1
      have HB1 := hide (((But.refl _ _).drewN _).trans hb1)
      have HT1 := hide ((unhide HT).but (unhide HB1) (unhide HNE))
      clear hs1 hb1
      go_wp2_with fail
      refine ((unhide HII) _ (unhide HT1)).mono ?_; rintro e wx ⟨rfl, rfl⟩
      rw [unhide HB]
      go_wp2_with fail
      go_ret2
      exact ⟨_, un, rfl, fun h => absurd rfl h, unhide HS1, hK.mono (by omega), hun, unhide HB1⟩
    · have HB := hide hb
      rw [if_pos rfl]
      clear hb
      go_enter Tryd.func44, Tryd.ntmps44
      go_wp2_with fail
      go_quiet (fail)
      go_wp2_with fail
      refine ((unhide HTR) _).mono ?_; rintro e w' ⟨rfl, rfl⟩
      go_wp2_with fail
      refine ((unhide HS) _ ((unhide HT).drewN _)).mono ?_; rintro e w' ⟨rfl, rfl⟩
      go_wp2_with fail
      refine ((unhide HI) _ ((unhide HT).drewN _)).mono ?_; rintro e w' ⟨rfl, rfl⟩
      go_wp2_with fail
      rw [unhide HN]
      refine ((unhide HA) _ ((unhide H0).drewN _) n (by omega)).mono ?_; rintro e w' ⟨rfl, hs1, hb1⟩
      have HS1 := hide hs1
      have HB1 := hide (((But.refl _ _).drewN _).trans hb1)
      have HT1 := hide ((unhide HT).but (unhide HB1) (unhide HNE))
      clear hs1 hb1
      go_wp2_with fail
      refine ((unhide HII) _ (unhide HT1)).mono ?_; rintro e wx ⟨rfl, rfl⟩
      rw [unhide HB]
      go_wp2_with fail
      go_ret2
      exact ⟨_, un, rfl, fun _ => unhide HEX, unhide HS1, hK.mono (by omega), hun, unhide HB1⟩

theorem kn_of {s : ByteArray} {k n : Nat} (h : ∀ j, j < n → ((L s).drop k).getD j 0 = 34 → Lx.qb (((L s).drop k).drop (j + 1)) = none) : Kn s k (k + n) := by
  intro j h1 h2 h3
  have := h (j - k) (by omega) (by rw [List.getD_eq_getElem?_getD, List.getElem?_drop, ← List.getD_eq_getElem?_getD, show k + (j - k) = j by omega]; exact h3)
  rwa [List.drop_drop, show k + (j - k + 1) = j + 1 by omega] at this
set_option maxRecDepth 100000 in
set_option maxHeartbeats 4000000 in
theorem takeText_any (b : Nat) (s : ByteArray) (k un : Nat) (w : World) (h : Sc w b s k un) (hK : Kn s k un) (hun : un ≤ s.size) (hk : k < s.size) (hs : s.size ≤ 1000000) (hq : s[k] = 34) :
    Calls Tryd.prog 45 #[.pointer (some ⟨b, 0, none⟩)] w (TakeIs b s k (Lx.tok1 ((L s).drop k)) w) := by
  have hd := L_drop s k hk
  rw [hq] at hd
  have hq' : (L s).getD k 0 = 34 := by rw [L_getD s k hk]; exact hq
  have hA := fun W un (hW : Sc W b s k un) (n : Nat) (hn : k + n ≤ s.size) => advance_any b s k n un W hW hn hs
  have HA := hide hA
  have H0 := hide h
  obtain ⟨c0, c1, c2, f1, f2, hlt⟩ := h
  by_cases hu : k < un
  · have hno := hK k (Nat.le_refl _) hu hq'
    have e : Lx.tok1 ((L s).drop k) = (0, [], 1) := by rw [hd, Lx.tok_quote, hno]
    rw [e]
    have du : decide ((k : Int) < (un : Int)) = true := by rw [decide_eq_true_iff]; omega
    clear hno e hA hd hq hq'
    go_enter Tryd.func45, Tryd.ntmps45
    go_wp2_with fail
    go_quiet (fail)
    go_wp2_with fail
    refine ((unhide HA) _ _ ((unhide H0).drewN _) 1 (by omega)).mono ?_; rintro e w' ⟨rfl, hs1, hb1⟩
    have HS1 := hide hs1
    have HB1 := hide (((But.refl _ _).drewN _).trans hb1)
    clear hs1 hb1
    go_wp2_with fail
    go_ret2
    exact ⟨_, un, rfl, fun h => absurd rfl h, unhide HS1, hK.mono (by omega), hun, unhide HB1⟩
  · have du : decide ((k : Int) < (un : Int)) = false := by rw [decide_eq_false_iff_not]; omega
    have hsz : (s.extract k s.size).size = s.size - k := by rw [ByteArray.size_extract]; omega
    have hU := fun W => unquote_any (s.extract k s.size) (by omega) (by omega) W
    unfold UnqIs at hU
    rw [L_tail, hsz, List.drop_drop] at hU
    rw [hd, Lx.tok_quote]
    cases hqb : Lx.qb ((L s).drop (k + 1)) with
    | none =>
      rw [hqb] at hU
      have HU := hide hU
      have hk' : k ≤ s.size := by omega
      have hk0 : (0 : Int) ≤ (k : Int) := Int.natCast_nonneg _
      simp only
      clear hU hqb hA hd hq hq' hsz
      go_enter Tryd.func45, Tryd.ntmps45
      go_wp2_with fail
      go_quiet (fail)
      go_wp2_with fail
      go_region_with (go_at_call 62; refine ((unhide HU) _).mono ?_; rintro e w1 ⟨hb1, n, hn1, hn2, rfl, hno⟩)
      all_goals
        have HB1 := hide (But.of (undrew hb1) hlt)
        have HS1 := hide ((unhide H0).later (undrew hb1))
        have HNO := hide hno
        have hwr : IntKind.i64.wrap ((k : Int) + (n : Int)) = (k : Int) + (n : Int) := IntWalk.i64_in _ (by omega)
        obtain ⟨d0, d1, d2, g1, g2, hlt1⟩ := unhide HS1
        clear hno hb1
        go_wp2_with fail
        refine ((unhide HA) _ (k + n) ((unhide HS1).guess _ (k + n) (by omega)) 1 (by omega)).mono ?_; rintro e w2 ⟨rfl, hs2, hb2⟩
        have HS2 := hide hs2
        have HB2 := hide (((unhide HB1).setCell 2 (.int .i64 ((k : Int) + (n : Int)))).trans hb2)
        clear hs2 hb2
        go_wp2_with fail
        go_ret2
        exact ⟨_, k + n, rfl, fun h => absurd rfl h, unhide HS2, (kn_of (unhide HNO)).mono (by omega), by omega, unhide HB2⟩
    | some x =>
      obtain ⟨c, n⟩ := x
      have hqn := Lx.qb_le _ _ (Nat.le_refl _) _ hqb
      rw [List.length_drop, L_len] at hqn
      obtain ⟨hqn1, hqn2⟩ := hqn
      rw [hqb] at hU
      have HU := hide hU
      have hk' : k ≤ s.size := by omega
      have hk0 : (0 : Int) ≤ (k : Int) := Int.natCast_nonneg _
      simp only at hqn1 hqn2 ⊢
      clear hU hqb hA hd hq hq' hsz
      go_enter Tryd.func45, Tryd.ntmps45
      go_wp2_with fail
      go_quiet (fail)
      go_wp2_with fail
      go_region_with (go_at_call 62; refine ((unhide HU) _).mono ?_; rintro e w1 ⟨hb1, rfl⟩)
      all_goals
        have HB1 := hide (But.of (undrew hb1) hlt)
        have HS1 := hide ((unhide H0).later (undrew hb1))
        clear hb1
        go_wp2_with fail
        refine ((unhide HA) _ un (unhide HS1) (n + 1) (by omega)).mono ?_; rintro e w2 ⟨rfl, hs2, hb2⟩
        have HS2 := hide hs2
        have HB2 := hide ((unhide HB1).trans hb2)
        clear hs2 hb2
        go_wp2_with fail
        go_ret2
        exact ⟨_, un, rfl, fun _ => rfl, unhide HS2, hK.mono (by omega), hun, unhide HB2⟩
end Go.Proofs.YtjppjbkndfbnhaaDoor
