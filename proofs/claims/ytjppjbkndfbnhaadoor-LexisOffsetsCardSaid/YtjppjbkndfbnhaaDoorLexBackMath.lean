/- Plain mathematics: the tokens of joined tokens; the tokens of a text fit. -/
import Derived.Test.YtjppjbkndfbnhaaDoorLexJMath
namespace Lx
set_option linter.unusedSimpArgs false
set_option linter.unusedVariables false

/-- what may follow a token in a joined text -/
def Tail (r : List B) : Prop := r = [] ∨ ∃ s, r = 32 :: s
theorem Tail.inn {r : List B} (h : Tail r) : spanN isInn r = 0 := by
  rcases h with rfl | ⟨s, rfl⟩
  · rfl
  · exact spanN_cons_neg (by decide)
theorem Tail.dig {r : List B} (h : Tail r) : spanN isDig r = 0 := by
  rcases h with rfl | ⟨s, rfl⟩
  · rfl
  · exact spanN_cons_neg (by decide)
theorem span_app {p : B → Bool} : ∀ {l r : List B}, l.all p = true → spanN p r = 0 → spanN p (l ++ r) = l.length
  | [], r, _, h => h
  | c :: l, r, h, h2 => by
    rw [List.all_cons, Bool.and_eq_true] at h
    rw [List.cons_append, spanN_cons_pos h.1, span_app h.2 h2, List.length_cons]
theorem blk_no {c : B} {r : List B} (h : cls c ≠ 64) (h2 : cls c ≠ 128) : blk false (c :: r) = 0 := by
  unfold blk
  have e1 : isSpc c = false := by unfold isSpc; rw [beq_eq_false_iff_ne]; exact h
  have e2 : ¬ c = 35 := fun e => h2 ((cls_hash c).2 (by rw [e]; rfl))
  rw [e1, if_neg (by decide), if_neg e2]
theorem qb_esc : ∀ (l rest : List B), cntP l = true → qb (esc l ++ 34 :: rest) = some (l, (esc l).length + 1)
  | [], rest, _ => qb_quote
  | c :: l, rest, h => by
    unfold cntP at h
    rw [List.all_cons, Bool.and_eq_true] at h
    have ih := qb_esc l rest h.2
    have e : esc (c :: l) = esc1 c ++ esc l := by simp [esc]
    rw [e]
    unfold esc1
    by_cases h1 : c = 34 ∨ c = 92
    · rw [if_pos h1]
      show qb (92 :: c :: (esc l ++ 34 :: rest)) = _
      rw [qb_two (by decide), if_neg (by decide), if_neg (by decide), if_neg (by rintro rfl; rcases h1 with h1 | h1 <;> exact absurd h1 (by decide)), if_pos h1, ih]
      simp
    · rw [if_neg h1]
      by_cases h2 : c = 10
      · rw [if_pos h2]
        show qb (92 :: 110 :: (esc l ++ 34 :: rest)) = _
        rw [qb_two (by decide), if_neg (by decide), if_neg (by decide), if_pos rfl, ih, h2]
        simp
      · rw [if_neg h2]
        have hv : vis c = true := by
          rw [Bool.or_eq_true] at h
          rcases h.1 with h | h
          · exact absurd (beq_iff_eq.1 h) h2
          · exact h
        have hm : meantP (c :: (esc l ++ 34 :: rest)) = (c, 1) := by
          show meantC _ _ = _
          unfold meantC
          rw [if_neg (by rw [hv]; decide), if_pos (fun e => h1 (.inr e))]
        have hg := qb_go (c := c) (r := esc l ++ 34 :: rest) (fun e => h1 (.inl e)) (by rw [hm]; exact Nat.one_ne_zero)
        rw [hm] at hg
        show qb (c :: (esc l ++ 34 :: rest)) = _
        rw [hg]
        show Option.map _ (qb (esc l ++ 34 :: rest)) = _
        rw [ih]
        simp
theorem tok_out (t : Tk) (rest : List B) (hf : fitP t = true) (hr : Tail rest) :
    ∃ c r, outT t ++ rest = c :: r ∧ blk false (c :: r) = 0 ∧ (tok1 (c :: r)).1 ≠ 0 ∧ ((tok1 (c :: r)).1 : Int) = t.k ∧ (tok1 (c :: r)).2.1 = t.t.data.toList ∧ (tok1 (c :: r)).2.2 = (outT t).length := by
  obtain ⟨k, s, a⟩ := t
  unfold fitP at hf
  simp only at hf
  generalize hl : s.data.toList = l at hf
  have ho : outT ⟨k, s, a⟩ = if k = 3 then quoteT l else l := by unfold outT; simp only [hl]
  rw [ho]
  simp only [hl]
  clear ho hl s a
  by_cases h1 : k = 1
  · subst h1
    rw [if_pos rfl] at hf
    rw [if_neg (by decide)]
    unfold wordP at hf
    cases l with
    | nil => simp at hf
    | cons c l =>
      simp only [Bool.and_eq_true] at hf
      have hc := (isLet_of c).1 hf.1
      refine ⟨c, l ++ rest, rfl, blk_no (by omega) (by omega), ?_⟩
      rw [tok_let hc, ← List.cons_append, span_app hf.2 hr.inn, List.take_left]
      exact ⟨by simp, rfl, rfl, rfl⟩
  rw [if_neg h1] at hf
  by_cases h2 : k = 2
  · subst h2
    rw [if_pos rfl] at hf
    rw [if_neg (by decide)]
    have hi := hf
    unfold intP at hf
    rw [Bool.or_eq_true] at hf
    have hne : ∃ c l', l = c :: l' ∧ (cls c = 2 ∨ cls c = 8) ∧ spanN isDig (unMinus (l ++ rest)) ≠ 0 ∧ (l ++ rest).length - (unMinus (l ++ rest)).length + spanN isInn (unMinus (l ++ rest)) = l.length := by
      rcases hf with hf | hf
      · have := beq_iff_eq.1 hf
        subst this
        refine ⟨48, [], rfl, .inl rfl, ?_, ?_⟩
        · show spanN isDig (48 :: rest) ≠ 0
          rw [spanN_cons_pos (by decide)]; omega
        · show (48 :: rest).length - (48 :: rest).length + spanN isInn (48 :: rest) = 1
          rw [spanN_cons_pos (by decide), hr.inn]; omega
      · simp only [Bool.and_eq_true, decide_eq_true_eq] at hf
        obtain ⟨⟨⟨h0, _⟩, _⟩, hall⟩ := hf
        cases l with
        | nil => simp [unMinus] at h0
        | cons c l =>
          by_cases h45 : c = 45
          · subst h45
            rw [unMinus_yes] at h0 hall
            refine ⟨45, l, rfl, .inr rfl, ?_, ?_⟩
            · rw [List.cons_append, unMinus_yes, span_app hall hr.dig]; omega
            · rw [List.cons_append, unMinus_yes, span_app (List.all_eq_true.2 fun x hx => inn_dig (List.all_eq_true.1 hall x hx)) hr.inn]
              simp only [List.length_cons]
              omega
          · rw [unMinus_no h45] at h0 hall
            have hc : isDig c = true := by rw [List.all_cons, Bool.and_eq_true] at hall; exact hall.1
            refine ⟨c, l, rfl, .inl ((isDig_of c).1 hc), ?_, ?_⟩
            · rw [List.cons_append, unMinus_no h45, ← List.cons_append, span_app hall hr.dig]; simp
            · rw [List.cons_append, unMinus_no h45, ← List.cons_append, span_app (List.all_eq_true.2 fun x hx => inn_dig (List.all_eq_true.1 hall x hx)) hr.inn]
              omega
    obtain ⟨c, l', rfl, hc, h3, h4⟩ := hne
    refine ⟨c, l' ++ rest, rfl, blk_no (by omega) (by omega), ?_⟩
    have := (tok_num (r := l' ++ rest) hc (by rw [← List.cons_append]; exact h3)).2
    rw [this, ← List.cons_append, h4, List.take_left, if_pos hi]
    exact ⟨by simp, rfl, rfl, rfl⟩
  rw [if_neg h2] at hf
  by_cases h3 : k = 3
  · subst h3
    rw [if_pos rfl] at hf
    rw [if_pos rfl]
    refine ⟨34, esc l ++ 34 :: rest, by simp [quoteT], blk_no (by decide) (by decide), ?_⟩
    rw [tok_quote, qb_esc l rest hf]
    exact ⟨by simp, rfl, rfl, by simp [quoteT]⟩
  rw [if_neg h3] at hf
  by_cases h4 : k = 4
  · subst h4
    rw [if_pos rfl] at hf
    rw [if_neg (by decide)]
    unfold sgnP at hf
    simp only [Bool.or_eq_true] at hf
    rcases hf with (hf | hf) | hf
    · have := beq_iff_eq.1 hf
      subst this
      refine ⟨60, 61 :: rest, rfl, blk_no (by decide) (by decide), ?_⟩
      have hcond : (decide (1 < (60 :: 61 :: rest : List B).length) && sgnP ((60 :: 61 :: rest : List B).take 2)) = true := by simp [sgnP]
      rw [tok_sign (by decide), hcond, if_pos rfl]
      exact ⟨by simp, rfl, rfl, rfl⟩
    · have := beq_iff_eq.1 hf
      subst this
      refine ⟨62, 61 :: rest, rfl, blk_no (by decide) (by decide), ?_⟩
      have hcond : (decide (1 < (62 :: 61 :: rest : List B).length) && sgnP ((62 :: 61 :: rest : List B).take 2)) = true := by simp [sgnP]
      rw [tok_sign (by decide), hcond, if_pos rfl]
      exact ⟨by simp, rfl, rfl, rfl⟩
    · match l, hf with
      | [c], hf =>
        have hc := (isSg1_of c).1 hf
        refine ⟨c, rest, rfl, blk_no (by omega) (by omega), ?_⟩
        have hcond : (decide (1 < (c :: rest).length) && sgnP ((c :: rest).take 2)) = false := by
          rcases hr with rfl | ⟨s, rfl⟩
          · simp
          · simp [sgnP]
        rw [tok_sign hc, hcond, if_neg (by decide)]
        exact ⟨by simp, rfl, rfl, rfl⟩
  rw [if_neg h4] at hf
  cases hf
abbrev kt (t : Tk) : Int × ByteArray := (t.k, t.t)
theorem tail_join (l : List Tk) : Tail (joinT l) := by
  cases l with
  | nil => exact .inl rfl
  | cons t r => exact .inr ⟨_, rfl⟩
theorem arr_list (s : ByteArray) : (⟨s.data.toList.toArray⟩ : ByteArray) = s := rfl
theorem scan_tok {f : Nat} {l : List B} {a : Nat} {e : Int} {nb : Nat} {c : B} {r : List B} (h : l.drop (blk false l) = c :: r) (h3 : (tok1 (c :: r)).1 ≠ 0) :
    scan (f + 1) l a e nb = (⟨(tok1 (c :: r)).1, ⟨(tok1 (c :: r)).2.1.toArray⟩, ((a + blk false l : Nat) : Int)⟩ :: (scan f ((c :: r).drop (tok1 (c :: r)).2.2) (a + blk false l + (tok1 (c :: r)).2.2) e nb).1,
          (scan f ((c :: r).drop (tok1 (c :: r)).2.2) (a + blk false l + (tok1 (c :: r)).2.2) e nb).2) := by
  conv => lhs; unfold scan
  rw [h]
  simp only
  rw [if_neg h3]
/-- the scan of a token and what follows it -/
theorem scan_out (f : Nat) (t : Tk) (rest : List B) (hf : fitP t = true) (hr : Tail rest) (a : Nat) (e : Int) (nb m : Nat) (l : List B) (hl : l.drop (blk false l) = outT t ++ rest) :
    ∃ a', (scan (f + 1) l a e nb).1.map kt = kt t :: (scan f rest a' e nb).1.map kt ∧ (scan (f + 1) l a e nb).2 = (scan f rest a' e nb).2 := by
  obtain ⟨c, r, h1, h2, h3, h4, h5, h6⟩ := tok_out t rest hf hr
  have hd : (c :: r).drop (outT t).length = rest := by rw [← h1, List.drop_left]
  rw [h1] at hl
  rw [scan_tok hl h3, h6, hd, h5]
  refine ⟨a + blk false l + (outT t).length, ?_, rfl⟩
  simp only [List.map_cons, kt, h4, arr_list]
theorem scan_joinT : ∀ (p : List Tk) (f : Nat) (a : Nat) (e : Int) (nb : Nat), p.all fitP = true → (joinT p).length < f → (scan f (joinT p) a e nb).1.map kt = p.map kt ++ [(5, ⟨#[]⟩)] ∧ (scan f (joinT p) a e nb).2 = []
  | [], f, a, e, nb, _, hf => by
    obtain ⟨f, rfl⟩ : ∃ g, f = g + 1 := ⟨f - 1, by omega⟩
    exact ⟨rfl, rfl⟩
  | t :: p, f, a, e, nb, h, hf => by
    obtain ⟨f, rfl⟩ : ∃ g, f = g + 1 := ⟨f - 1, by omega⟩
    rw [List.all_cons, Bool.and_eq_true] at h
    obtain ⟨c, r, h1, h2, _⟩ := tok_out t (joinT p) h.1 (tail_join p)
    have hb : blk false (joinT (t :: p)) = 1 := by
      show blk false (32 :: (outT t ++ joinT p)) = 1
      rw [h1, blk, if_pos (by decide), h2]
    obtain ⟨a', e1, e2⟩ := scan_out f t (joinT p) h.1 (tail_join p) a e nb 0 (joinT (t :: p)) (by rw [hb]; rfl)
    have hlen : (joinT p).length < f := by
      have : (joinT (t :: p)).length = 1 + ((outT t).length + (joinT p).length) := by simp [joinT]; omega
      omega
    obtain ⟨i1, i2⟩ := scan_joinT p f a' e nb h.2 hlen
    rw [e1, e2, i1, i2]
    exact ⟨rfl, rfl⟩
theorem toks_join (p : List Tk) (h : p.all fitP = true) : (toks (joinL p)).1.map kt = p.map kt ++ [(5, ⟨#[]⟩)] ∧ (toks (joinL p)).2 = [] := by
  unfold toks
  cases p with
  | nil => exact ⟨rfl, rfl⟩
  | cons t p =>
    rw [List.all_cons, Bool.and_eq_true] at h
    obtain ⟨c, r, h1, h2, _⟩ := tok_out t (joinT p) h.1 (tail_join p)
    have hb : blk false (joinL (t :: p)) = 0 := by
      show blk false (outT t ++ joinT p) = 0
      rw [h1, h2]
    have hne : 1 ≤ (outT t).length := by
      obtain ⟨c', r', g1, g2, g3, g4, g5, g6⟩ := tok_out t (joinT p) h.1 (tail_join p)
      have := (tok1_pos c' r').1
      omega
    have hl : (joinL (t :: p)).length = (outT t).length + (joinT p).length := by simp [joinL]
    obtain ⟨a', e1, e2⟩ := scan_out (joinL (t :: p)).length t (joinT p) h.1 (tail_join p) 0 (-1) 0 0 (joinL (t :: p)) (by rw [hb]; rfl)
    obtain ⟨i1, i2⟩ := scan_joinT p (joinL (t :: p)).length a' (-1) 0 h.2 (by omega)
    rw [e1, e2, i1, i2]
    exact ⟨rfl, rfl⟩

theorem qb_fit : ∀ (n : Nat) (l : List B), l.length ≤ n → ∀ x, qb l = some x → cntP x.1 = true ∧ x.1.length + 1 ≤ x.2 := by
  intro n
  induction n with
  | zero =>
    intro l hl x h
    have : l = [] := List.length_eq_zero_iff.1 (by omega)
    subst this
    simp [qb] at h
  | succ n ih =>
    intro l hl x h
    cases l with
    | nil => simp [qb] at h
    | cons c r =>
      by_cases h1 : c = 34
      · subst h1
        rw [qb_quote] at h
        injection h with h
        subst h
        exact ⟨rfl, Nat.le_refl _⟩
      · by_cases h0 : (meantP (c :: r)).2 = 0
        · rw [qb_stop h1 h0] at h; cases h
        · rw [qb_go h1 h0] at h
          obtain ⟨y, hy, rfl⟩ := Option.map_eq_some_iff.1 h
          have hm := meantP_le (c :: r)
          obtain ⟨i1, i2⟩ := ih _ (by rw [List.length_drop]; simp only [List.length_cons] at hl ⊢; omega) y hy
          have hv : ((meantP (c :: r)).1 == 10 || vis (meantP (c :: r)).1) = true := by
            have h0' : (meantC c r).2 ≠ 0 := h0
            show ((meantC c r).1 == 10 || vis (meantC c r).1) = true
            unfold meantC at h0' ⊢
            by_cases hc : vis c = false
            · rw [if_pos hc] at h0'; simp at h0'
            · rw [if_neg hc] at h0' ⊢
              by_cases h92 : c ≠ 92
              · rw [if_pos h92]; simp [Bool.not_eq_false _ ▸ hc]
              · rw [if_neg h92] at h0' ⊢
                cases r with
                | nil => simp [escP] at h0'
                | cons d s =>
                  unfold escP at h0' ⊢
                  simp only at h0' ⊢
                  by_cases h3 : d = 110
                  · rw [if_pos h3]; rfl
                  · rw [if_neg h3] at h0' ⊢
                    by_cases h4 : d = 34 ∨ d = 92
                    · rw [if_pos h4]
                      rcases h4 with rfl | rfl <;> rfl
                    · rw [if_neg h4] at h0'; simp at h0'
          refine ⟨?_, ?_⟩
          · show cntP ((meantP (c :: r)).1 :: y.1) = true
            unfold cntP at i1 ⊢
            rw [List.all_cons, hv, i1]
            rfl
          · simp only [List.length_cons]
            omega
theorem take_all {p : B → Bool} : ∀ l : List B, (l.takeWhile p).all p = true
  | [] => rfl
  | c :: r => by
    by_cases h : p c = true
    · rw [List.takeWhile_cons_of_pos h, List.all_cons, h, take_all r]; rfl
    · rw [List.takeWhile_cons_of_neg h]; rfl
theorem tok1_fit (c : B) (r : List B) (a : Int) (h : (tok1 (c :: r)).1 ≠ 0) : fitP ⟨((tok1 (c :: r)).1 : Nat), ⟨(tok1 (c :: r)).2.1.toArray⟩, a⟩ = true ∧ (tok1 (c :: r)).2.1.length ≤ (tok1 (c :: r)).2.2 := by
  change (tokC c r).1 ≠ 0 at h
  show fitP ⟨((tokC c r).1 : Nat), ⟨(tokC c r).2.1.toArray⟩, a⟩ = true ∧ (tokC c r).2.1.length ≤ (tokC c r).2.2
  unfold tokC at h ⊢
  by_cases h1 : isLet c = true
  · rw [if_pos h1]
    refine ⟨?_, Nat.le_refl _⟩
    show wordP ((c :: r).takeWhile isInn) = true
    have hall := take_all (p := isInn) (c :: r)
    rw [List.takeWhile_cons_of_pos (inn_let h1)] at hall ⊢
    unfold wordP
    rw [hall]
    simp [h1]
  · rw [if_neg h1] at h ⊢
    by_cases h2 : (isDig c || (c == 45 && nxD r)) = true
    · rw [if_pos h2] at h ⊢
      by_cases h3 : intP (c :: r.takeWhile isInn) = true
      · rw [if_pos h3]
        exact ⟨h3, Nat.le_refl _⟩
      · rw [if_neg h3] at h; simp at h
    · rw [if_neg h2] at h ⊢
      by_cases h4 : c = 34
      · rw [if_pos h4] at h ⊢
        cases hq : qb r with
        | none => rw [hq] at h; simp at h
        | some x =>
          obtain ⟨i1, i2⟩ := qb_fit _ _ (Nat.le_refl _) x hq
          exact ⟨i1, by simp only; omega⟩
      · rw [if_neg h4] at h ⊢
        by_cases h5 : isSg1 c = true
        · rw [if_pos h5]
          by_cases h6 : (sgnP ((c :: r).take 2) && decide (1 ≤ r.length)) = true
          · rw [if_pos h6]
            rw [Bool.and_eq_true] at h6
            exact ⟨h6.1, by rw [List.length_take]; exact Nat.min_le_left _ _⟩
          · rw [if_neg h6]
            refine ⟨?_, Nat.le_refl _⟩
            show sgnP [c] = true
            unfold sgnP
            simp [h5]
        · rw [if_neg h5] at h; simp at h
theorem scan_fit : ∀ (f : Nat) (l : List B) (a : Nat) (e : Int) (nb : Nat), l.length < f → ∃ p b, (scan f l a e nb).1 = p ++ [⟨5, ⟨#[]⟩, b⟩] ∧ p.all fitP = true ∧ wgt p ≤ 2 * l.length := by
  intro f
  induction f with
  | zero => intro l a e nb h; omega
  | succ f ih =>
    intro l a e nb hf
    have hd : (l.drop (blk false l)).length ≤ l.length := by rw [List.length_drop]; omega
    unfold scan
    cases hc : l.drop (blk false l) with
    | nil => exact ⟨[], _, rfl, rfl, Nat.zero_le _⟩
    | cons c r =>
      rw [hc] at hd
      have hp := tok1_pos c r
      have hlen : ((c :: r).drop (tok1 (c :: r)).2.2).length + (tok1 (c :: r)).2.2 = r.length + 1 := by
        rw [List.length_drop, List.length_cons]; omega
      rw [List.length_cons] at hd
      simp only
      by_cases h0 : (tok1 (c :: r)).1 = 0
      · rw [if_pos h0]
        by_cases h1 : ((a + blk false l : Nat) : Int) ≠ e ∧ nb < 64
        · rw [if_pos h1]
          obtain ⟨p, b, h2, h3, h4⟩ := ih ((c :: r).drop (tok1 (c :: r)).2.2) (a + blk false l + (tok1 (c :: r)).2.2) ((a + blk false l + (tok1 (c :: r)).2.2 : Nat) : Int) (nb + 1) (by omega)
          exact ⟨p, b, h2, h3, by omega⟩
        · rw [if_neg h1]
          obtain ⟨p, b, h2, h3, h4⟩ := ih ((c :: r).drop (tok1 (c :: r)).2.2) (a + blk false l + (tok1 (c :: r)).2.2) ((a + blk false l + (tok1 (c :: r)).2.2 : Nat) : Int) nb (by omega)
          exact ⟨p, b, h2, h3, by omega⟩
      · rw [if_neg h0]
        obtain ⟨p, b, h2, h3, h4⟩ := ih ((c :: r).drop (tok1 (c :: r)).2.2) (a + blk false l + (tok1 (c :: r)).2.2) e nb (by omega)
        obtain ⟨h5, h6⟩ := tok1_fit c r ((a + blk false l : Nat) : Int) h0
        refine ⟨⟨(tok1 (c :: r)).1, ⟨(tok1 (c :: r)).2.1.toArray⟩, ((a + blk false l : Nat) : Int)⟩ :: p, b, ?_, ?_, ?_⟩
        · simp only
          rw [h2]
          rfl
        · rw [List.all_cons, h5, h3]
          rfl
        · have e1 : (⟨(tok1 (c :: r)).2.1.toArray⟩ : ByteArray).size = (tok1 (c :: r)).2.1.length := by show (tok1 (c :: r)).2.1.toArray.size = _; simp
          simp only [wgt, e1]
          omega
theorem toks_fit (l : List B) : ∃ p b, (toks l).1 = p ++ [⟨5, ⟨#[]⟩, b⟩] ∧ p.all fitP = true ∧ wgt p ≤ 2 * l.length := scan_fit _ _ _ _ _ (Nat.lt_succ_self _)
end Lx
