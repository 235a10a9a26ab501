/- Contracts over the program of lexis: tokens that fit, lists of tokens, Join. -/
import Derived.Test.YtjppjbkndfbnhaaDoorLexJ
namespace Go.Proofs.YtjppjbkndfbnhaaDoor
set_option linter.unusedSimpArgs false
set_option linter.unusedVariables false
open Go.RowKit

/-- a token, as it is passed -/
abbrev tkV (t : Lx.Tk) : Value := .agg #[.int .i64 t.k, .string t.t, .int .i64 t.a]
/-- the slice of tokens at A reads as the list -/
structure TkAt (w : World) (A : Option Addr) (l : List Lx.Tk) : Prop where
  at_ : l ≠ [] → ∃ b o, A = some ⟨b, o, none⟩ ∧ b < w.heap.size ∧ ∀ j t, l[j]? = some t → w.cell? ⟨b, o + j * 3, none⟩ = some (.int .i64 t.k) ∧ w.cell? ⟨b, o + j * 3 + 1, none⟩ = some (.string t.t) ∧ w.cell? ⟨b, o + j * 3 + 2, none⟩ = some (.int .i64 t.a)
theorem TkAt.nil {w : World} {A : Option Addr} : TkAt w A [] := ⟨fun h => absurd rfl h⟩
theorem TkAt.keep {w w' : World} {A : Option Addr} {l : List Lx.Tk} (h : TkAt w A l) (hb : Below w.heap.size w w') : TkAt w' A l := by
  refine ⟨fun hl => ?_⟩
  obtain ⟨b, o, e, hlt, hc⟩ := h.at_ hl
  have hk := hb.block b hlt
  refine ⟨b, o, e, Nat.lt_of_lt_of_le hlt hb.size, fun j t hj => ?_⟩
  rw [cell_block hk, cell_block hk, cell_block hk]
  exact hc j t hj
theorem TkAt.take {w : World} {A : Option Addr} {l : List Lx.Tk} (h : TkAt w A l) (k : Nat) : TkAt w A (l.take k) := by
  refine ⟨fun hl => ?_⟩
  obtain ⟨b, o, e, hlt, hc⟩ := h.at_ (fun e => hl (by rw [e]; simp))
  refine ⟨b, o, e, hlt, fun j t hj => hc j t ?_⟩
  rw [List.getElem?_take] at hj
  split at hj
  · exact hj
  · cases hj
theorem tkCells_get : ∀ {l : List Lx.Tk} {j : Nat} {t : Lx.Tk}, l[j]? = some t → (tkCells l)[j * 3]? = some (.int .i64 t.k) ∧ (tkCells l)[j * 3 + 1]? = some (.string t.t) ∧ (tkCells l)[j * 3 + 2]? = some (.int .i64 t.a)
  | [], j, t, h => by simp at h
  | x :: r, 0, t, h => by simp at h; subst h; exact ⟨rfl, rfl, rfl⟩
  | x :: r, j + 1, t, h => by
    have e : tkCells (x :: r) = tk1 x ++ tkCells r := by simp [tkCells]
    have ih := tkCells_get (l := r) (j := j) (t := t) (by simpa using h)
    have hl : (tk1 x).length = 3 := rfl
    rw [e, List.getElem?_append_right (by omega), List.getElem?_append_right (by omega), List.getElem?_append_right (by omega), hl, show (j + 1) * 3 - 3 = j * 3 by omega, show (j + 1) * 3 + 1 - 3 = j * 3 + 1 by omega, show (j + 1) * 3 + 2 - 3 = j * 3 + 2 by omega]
    exact ih
theorem own_tk {w : World} {B : Nat} {v : Value} {l : List Lx.Tk} (h : OwnT w B v l) : ∃ A c, v = .slice A l.length c ∧ TkAt w A l ∧ l.length ≤ c ∧ (A = none → c = 0) := by
  have hh := h
  rcases h.2 with ⟨rfl, h0⟩ | ⟨g, cap, cur, rfl, hb, hg, hn, hm, hs, ht⟩
  · have : l = [] := List.length_eq_zero_iff.1 h0
    subst this
    exact ⟨none, 0, rfl, TkAt.nil, Nat.le_refl _, fun _ => rfl⟩
  · refine ⟨_, cap, rfl, ⟨fun _ => ⟨g, 0, rfl, (Array.getElem?_eq_some_iff.1 hg).1, fun j t hj => ?_⟩⟩, hn, fun e => by cases e⟩
    have hjl := (List.getElem?_eq_some_iff.1 hj).1
    obtain ⟨c0, c1, c2⟩ := tkCells_get hj
    rw [Nat.zero_add, World.ownsRow.cellAt hh (j * 3) (by omega), World.ownsRow.cellAt hh (j * 3 + 1) (by omega), World.ownsRow.cellAt hh (j * 3 + 2) (by omega)]
    exact ⟨c0, c1, c2⟩

theorem unfit_any (t : Lx.Tk) (w : World) (hT : Tab w) (hs : t.t.size ≤ 140737488351232) : Calls Tryd.prog 30 #[tkV t] w fun e w' => e = .returned (.bool (!Lx.fitP t)) ∧ Below w.heap.size w w' := by
  obtain ⟨k, s, a⟩ := t
  simp only at hs
  have hb := Below.alloc (Below.refl w.heap.size w) (Nat.le_refl _) (.cells #[.int .i64 k, .string s, .int .i64 a] 41)
  have hT1 := hT.keep hb
  unfold Lx.fitP
  simp only
  by_cases h1 : k = 1
  · subst h1
    rw [if_pos rfl]
    have hc := word_any s _ hT1 hs
    change Calls _ _ _ _ (fun e w' => e = .returned (.bool (Lx.wordP s.data.toList)) ∧ _) at hc
    generalize Lx.wordP s.data.toList = r at hc ⊢
    have HC := hide hc
    have HB := hide hb
    clear hc hT hT1 hb
    go_enter Tryd.func30, Tryd.ntmps30
    go_wp2_with fail
    refine (unhide HC).mono ?_; rintro e w' ⟨rfl, rfl⟩
    go_wp2_with fail
    go_ret
    exact ⟨rfl, unhide HB⟩
  have k1 : (k == 1) = false := by rw [beq_eq_false_iff_ne]; exact h1
  rw [if_neg h1]
  by_cases h2 : k = 2
  · subst h2
    rw [if_pos rfl]
    have hc := integer_any s _ hT1 hs
    change Calls _ _ _ _ (fun e w' => e = .returned (.bool (Lx.intP s.data.toList)) ∧ _) at hc
    generalize Lx.intP s.data.toList = r at hc ⊢
    have HC := hide hc
    have HB := hide hb
    clear hc hT hT1 hb
    go_enter Tryd.func30, Tryd.ntmps30
    go_wp2_with fail
    refine (unhide HC).mono ?_; rintro e w' ⟨rfl, rfl⟩
    go_wp2_with fail
    go_ret
    exact ⟨rfl, unhide HB⟩
  have k2 : (k == 2) = false := by rw [beq_eq_false_iff_ne]; exact h2
  rw [if_neg h2]
  by_cases h3 : k = 3
  · subst h3
    rw [if_pos rfl]
    have hc := fun W => contents_any s W hs
    change ∀ W, Calls _ _ _ _ (fun e w' => e = .returned (.bool (Lx.cntP s.data.toList)) ∧ _) at hc
    generalize Lx.cntP s.data.toList = r at hc ⊢
    have HC := hide hc
    have HB := hide hb
    clear hc hT hT1 hb
    go_enter Tryd.func30, Tryd.ntmps30
    go_wp2_with fail
    refine ((unhide HC) _).mono ?_; rintro e w' ⟨rfl, rfl⟩
    go_wp2_with fail
    go_ret
    exact ⟨rfl, unhide HB⟩
  have k3 : (k == 3) = false := by rw [beq_eq_false_iff_ne]; exact h3
  rw [if_neg h3]
  by_cases h4 : k = 4
  · subst h4
    rw [if_pos rfl]
    have hc := sign_any s _ hT1
    change Calls _ _ _ _ (fun e w' => e = .returned (.bool (Lx.sgnP s.data.toList)) ∧ _) at hc
    generalize Lx.sgnP s.data.toList = r at hc ⊢
    have HC := hide hc
    have HB := hide hb
    clear hc hT hT1 hb
    go_enter Tryd.func30, Tryd.ntmps30
    go_wp2_with fail
    refine (unhide HC).mono ?_; rintro e w' ⟨rfl, rfl⟩
    go_wp2_with fail
    go_ret
    exact ⟨rfl, unhide HB⟩
  have k4 : (k == 4) = false := by rw [beq_eq_false_iff_ne]; exact h4
  rw [if_neg h4]
  have HB := hide hb
  clear hT hT1 hb
  go_enter Tryd.func30, Tryd.ntmps30
  go_wp2_with fail
  go_ret
  exact ⟨rfl, unhide HB⟩

/-- how the search for an unfit token ends -/
def IdxIs (l : List Lx.Tk) (w : World) (e : Ending) (w' : World) : Prop := ∃ r : Int, e = .returned (.int .i64 r) ∧ (l.all Lx.fitP = true → r = -1) ∧ (l.all Lx.fitP = false → 0 ≤ r) ∧ Below w.heap.size w w'
theorem idx_none {l : List Lx.Tk} {w w' : World} (h : l.all Lx.fitP = true) (hb : Below w.heap.size w w') : IdxIs l w (.returned (.int .i64 (-1))) w' := ⟨-1, rfl, fun _ => rfl, (fun h' => by rw [h] at h'; cases h'), hb⟩
set_option maxRecDepth 100000 in
set_option maxHeartbeats 4000000 in
theorem index_any (A : Option Addr) (c n : Nat) (l : List Lx.Tk) (w : World) (hn : l.length = n) (hA : TkAt w A l) (hT : Tab w) (hl : n ≤ 1000000) (hs : ∀ t ∈ l, t.t.size ≤ 140737488351232) :
    Calls Tryd.prog 50 #[.slice A n c, .func (.func 30) #[] #[]] w (IdxIs l w) := by
  have HN := hide hn; have HA := hide hA; have HT := hide hT; have HS := hide hs
  clear hn hA hT hs
  go_enter Tryd.func50, Tryd.ntmps50
  go_wp2_with fail
  go_loopw [8] (fun i wr => ∃ k : Nat, k ≤ n ∧ i = .int .i64 (k : Int) ∧ (l.take k).all Lx.fitP = true ∧ Below w.heap.size w wr) (fun i _ => n - (intOf i).toNat)
  case atStart => exact ⟨0, Nat.zero_le _, rfl, by simp, Below.refl _ _⟩
  case round =>
    obtain ⟨k, hk, rfl, hall, hb⟩ := hrel
    by_cases hlt : k < n
    · obtain ⟨t, ht⟩ : ∃ t, l[k]? = some t := ⟨_, List.getElem?_eq_getElem (by have := unhide HN; omega)⟩
      obtain ⟨bb, o, rfl, hbl, hc⟩ := ((unhide HA).keep hb).at_ (List.ne_nil_of_length_pos (by have := unhide HN; omega))
      obtain ⟨c0, c1, c2⟩ := hc k t ht
      have hu := unfit_any t wr ((unhide HT).keep hb) ((unhide HS) t (List.mem_of_getElem? ht))
      have hns := List.take_add_one (l := l) (i := k)
      rw [ht] at hns
      have HU := hide hu; have HALL := hide hall; have HB := hide hb; have HNS := hide hns; have HTT := hide ht
      clear hu hall hb hc hns ht
      obtain ⟨tk, ts, ta⟩ := t
      simp only at c0 c1 c2
      cases hf : Lx.fitP ⟨tk, ts, ta⟩
      · have HF := hide hf
        go_wp2_with fail
        refine (unhide HU).mono ?_; rintro e w1 ⟨rfl, hb1⟩
        rw [unhide HF]
        have HB1 := hide (thenB (unhide HB) hb1)
        clear hb1
        go_wp2_with fail
        go_ret
        refine ⟨_, rfl, fun h => ?_, fun _ => Int.natCast_nonneg _, unhide HB1⟩
        have := List.all_eq_true.1 h _ (List.mem_of_getElem? (unhide HTT))
        rw [unhide HF] at this
        cases this
      · have HF := hide hf
        go_wp2_with fail
        refine (unhide HU).mono ?_; rintro e w1 ⟨rfl, hb1⟩
        rw [unhide HF]
        have HB1 := hide (thenB (unhide HB) hb1)
        clear hb1
        go_wp2_with fail
        go_roundw
        case rel => exact ⟨k + 1, by omega, by go_num, by rw [unhide HNS, List.all_append, unhide HALL]; simp [unhide HF], unhide HB1⟩
        case measure => simp [intOf]; omega
    · have hal : l.all Lx.fitP = true := by rw [List.take_of_length_le (by have := unhide HN; omega)] at hall; exact hall
      have HAL := hide hal
      have HB := hide hb
      clear hal hall hb
      go_wp2_with fail
      go_ret
      exact idx_none (unhide HAL) (unhide HB)
theorem contains_any (A : Option Addr) (c n : Nat) (l : List Lx.Tk) (w : World) (hn : l.length = n) (hA : TkAt w A l) (hT : Tab w) (hl : n ≤ 1000000) (hs : ∀ t ∈ l, t.t.size ≤ 140737488351232) :
    Calls Tryd.prog 29 #[.slice A n c, .func (.func 30) #[] #[]] w fun e w' => e = .returned (.bool (!l.all Lx.fitP)) ∧ Below w.heap.size w w' := by
  have hi := index_any A c n l w hn hA hT hl hs
  have HI := hide hi
  clear hi hn hA hT hs
  cases hf : l.all Lx.fitP
  · have HF := hide hf
    go_enter Tryd.func29, Tryd.ntmps29
    go_wp2_with fail
    refine (unhide HI).mono ?_; rintro e w1 ⟨r, rfl, h1, h2, hb1⟩
    have h0 := h2 (unhide HF)
    have HB1 := hide hb1
    clear h1 h2 hb1
    go_wp2_with fail
    go_ret
    exact ⟨by simp <;> omega, unhide HB1⟩
  · have HF := hide hf
    go_enter Tryd.func29, Tryd.ntmps29
    go_wp2_with fail
    refine (unhide HI).mono ?_; rintro e w1 ⟨r, rfl, h1, h2, hb1⟩
    obtain rfl := h1 (unhide HF)
    have HB1 := hide hb1
    clear h1 h2 hb1
    go_wp2_with fail
    go_ret
    exact ⟨rfl, unhide HB1⟩
set_option maxRecDepth 100000 in
set_option maxHeartbeats 4000000 in
theorem appTok_any (B : Nat) (v : Value) (bs : List Lx.B) (t : Lx.Tk) (w : World) (hO : OwnB w B v bs) (hB : B ≤ w.heap.size) (hb : bs.length ≤ 1000000) (hs : t.t.size ≤ 1000000) :
    Calls Tryd.prog 31 #[v, tkV t] w (Wrote B w (bs ++ Lx.outT t)) := by
  obtain ⟨k, s, a⟩ := t
  simp only at hs
  have hb1 := Below.alloc (Below.refl B w) hB (.cells #[.int .i64 k, .string s, .int .i64 a] 41)
  have hO1 : OwnB (w.alloc (.cells #[.int .i64 k, .string s, .int .i64 a] 41)) B v bs := World.ownsRow.alloc hO _
  have hq := quoted_any B v bs s _ hO1 (by simp; omega) hb hs
  have HO := hide hO1; have HQ := hide hq; have HB := hide hb1
  unfold Lx.outT
  simp only
  clear hO hb1 hO1 hq
  by_cases h3 : k = 3
  · subst h3
    rw [if_pos rfl]
    go_enter Tryd.func31, Tryd.ntmps31
    go_wp2_with fail
    refine (unhide HQ).mono ?_; rintro e w1 ⟨v1, rfl, hO1, hb1⟩
    have HO1 := hide hO1; have HB1 := hide ((unhide HB).trans hb1)
    clear hO1 hb1
    go_wp2_with fail
    go_ret
    exact ⟨_, rfl, unhide HO1, unhide HB1⟩
  · have k3 : (k == 3) = false := by rw [beq_eq_false_iff_ne]; exact h3
    rw [if_neg h3]
    go_enter Tryd.func31, Tryd.ntmps31
    go_wp2_with (at_builtin; refine wpList_appS rfl _ _ rfl B _ bs s rfl rfl (unhide HO) ?c1 ?c2 ?_)
    case c1 => omega
    case c2 => simp; omega
    intro v1 w1 hown hgrow
    have HO1 := hide hown; have HB1 := hide ((unhide HB).grown hgrow (by simp; omega) (own_lt (unhide HO)))
    clear hown hgrow
    go_wp2_with fail
    go_ret
    exact ⟨_, rfl, unhide HO1, unhide HB1⟩
end Go.Proofs.YtjppjbkndfbnhaaDoor
