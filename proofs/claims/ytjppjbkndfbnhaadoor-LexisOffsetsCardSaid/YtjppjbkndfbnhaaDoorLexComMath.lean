/- Plain mathematics: a comment that is inserted ahead of a token has no effect. -/
import Derived.Test.YtjppjbkndfbnhaaDoorLexBackMath
namespace Lx
set_option linter.unusedSimpArgs false
set_option linter.unusedVariables false

/-- what is inserted ahead of a text -/
def insC (rem z : List B) : List B := 35 :: (rem ++ 10 :: z)
def Plain (rem : List B) : Prop := ∀ c ∈ rem, c ≠ 10 ∧ c ≠ 34
theorem blk_rem : ∀ {rem : List B} (z : List B), Plain rem → blk true (rem ++ 10 :: z) = rem.length + 1 + blk false z
  | [], z, _ => by rw [List.nil_append, blk, if_pos rfl]; simp
  | c :: r, z, h => by
    rw [List.cons_append, blk, if_neg (h c List.mem_cons_self).1, blk_rem z (fun x hx => h x (List.mem_cons_of_mem _ hx)), List.length_cons]
    omega
theorem blk_insC {rem : List B} (z : List B) (h : Plain rem) (md : Bool) : blk md (insC rem z) = rem.length + 2 + blk false z := by
  unfold insC
  cases md
  · rw [blk, if_neg (by decide), if_pos rfl, blk_rem z h]; omega
  · rw [blk, if_neg (by decide), blk_rem z h]; omega
theorem blk_ins {rem : List B} (z : List B) (h : Plain rem) : ∀ (md : Bool) (l : List B), blk md (l.take (blk md l) ++ insC rem z) = blk md l + (rem.length + 2) + blk false z
  | true, [] => by show blk true (insC rem z) = _; rw [blk_insC z h]; simp [blk]
  | false, [] => by show blk false (insC rem z) = _; rw [blk_insC z h]; simp [blk]
  | true, c :: r => by
    by_cases h1 : c = 10
    · have e : blk true (c :: r) = 1 + blk false r := by rw [blk, if_pos h1]
      rw [e, Nat.add_comm 1, List.take_succ_cons, List.cons_append, blk, if_pos h1, blk_ins z h false r]; omega
    · have e : blk true (c :: r) = 1 + blk true r := by rw [blk, if_neg h1]
      rw [e, Nat.add_comm 1, List.take_succ_cons, List.cons_append, blk, if_neg h1, blk_ins z h true r]; omega
  | false, c :: r => by
    by_cases h1 : isSpc c = true
    · have e : blk false (c :: r) = 1 + blk false r := by rw [blk, if_pos h1]
      rw [e, Nat.add_comm 1, List.take_succ_cons, List.cons_append, blk, if_pos h1, blk_ins z h false r]; omega
    · by_cases h2 : c = 35
      · have e : blk false (c :: r) = 1 + blk true r := by rw [blk, if_neg h1, if_pos h2]
        rw [e, Nat.add_comm 1, List.take_succ_cons, List.cons_append, blk, if_neg h1, if_pos h2, blk_ins z h true r]; omega
      · have e : blk false (c :: r) = 0 := by rw [blk, if_neg h1, if_neg h2]
        rw [e, List.take_zero, List.nil_append, blk_insC z h]; omega
theorem blk_drop : ∀ (md : Bool) (l : List B), blk false (l.drop (blk md l)) = 0
  | true, [] => rfl
  | false, [] => rfl
  | true, c :: r => by
    by_cases h1 : c = 10
    · have e : blk true (c :: r) = 1 + blk false r := by rw [blk, if_pos h1]
      rw [e, Nat.add_comm 1, List.drop_succ_cons, blk_drop false r]
    · have e : blk true (c :: r) = 1 + blk true r := by rw [blk, if_neg h1]
      rw [e, Nat.add_comm 1, List.drop_succ_cons, blk_drop true r]
  | false, c :: r => by
    by_cases h1 : isSpc c = true
    · have e : blk false (c :: r) = 1 + blk false r := by rw [blk, if_pos h1]
      rw [e, Nat.add_comm 1, List.drop_succ_cons, blk_drop false r]
    · by_cases h2 : c = 35
      · have e : blk false (c :: r) = 1 + blk true r := by rw [blk, if_neg h1, if_pos h2]
        rw [e, Nat.add_comm 1, List.drop_succ_cons, blk_drop true r]
      · have e : blk false (c :: r) = 0 := by rw [blk, if_neg h1, if_neg h2]
        rw [e, List.drop_zero, e]
theorem blk_pre {c : B} (y : List B) : ∀ (md : Bool) (l r : List B), l.drop (blk md l) = c :: r → blk md (l.take (blk md l) ++ c :: y) = blk md l
  | true, [], r, h => by simp at h
  | false, [], r, h => by simp at h
  | true, d :: l, r, h => by
    by_cases h1 : d = 10
    · have e : blk true (d :: l) = 1 + blk false l := by rw [blk, if_pos h1]
      rw [e, Nat.add_comm 1] at h ⊢
      rw [List.take_succ_cons, List.cons_append, blk, if_pos h1, blk_pre y false l r h]; omega
    · have e : blk true (d :: l) = 1 + blk true l := by rw [blk, if_neg h1]
      rw [e, Nat.add_comm 1] at h ⊢
      rw [List.take_succ_cons, List.cons_append, blk, if_neg h1, blk_pre y true l r h]; omega
  | false, d :: l, r, h => by
    by_cases h1 : isSpc d = true
    · have e : blk false (d :: l) = 1 + blk false l := by rw [blk, if_pos h1]
      rw [e, Nat.add_comm 1] at h ⊢
      rw [List.take_succ_cons, List.cons_append, blk, if_pos h1, blk_pre y false l r h]; omega
    · by_cases h2 : d = 35
      · have e : blk false (d :: l) = 1 + blk true l := by rw [blk, if_neg h1, if_pos h2]
        rw [e, Nat.add_comm 1] at h ⊢
        rw [List.take_succ_cons, List.cons_append, blk, if_neg h1, if_pos h2, blk_pre y true l r h]; omega
      · have e : blk false (d :: l) = 0 := by rw [blk, if_neg h1, if_neg h2]
        rw [e, List.drop_zero] at h
        injection h with h3 h4
        rw [e, List.take_zero, List.nil_append, blk, ← h3, if_neg h1, if_neg h2]
theorem span_take {p : B → Bool} : ∀ {l y : List B} {k : Nat}, spanN p l ≤ k → spanN p y = 0 → spanN p (l.take k ++ y) = spanN p l
  | [], y, k, _, h => by rw [List.take_nil, List.nil_append, h]; rfl
  | c :: l, y, k, h, h2 => by
    by_cases hc : p c = true
    · rw [spanN_cons_pos hc] at h ⊢
      obtain ⟨k, rfl⟩ : ∃ j, k = j + 1 := ⟨k - 1, by omega⟩
      rw [List.take_succ_cons, List.cons_append, spanN_cons_pos hc, span_take (by omega) h2]
    · rw [spanN_cons_neg hc]
      cases k with
      | zero => simpa using h2
      | succ k => rw [List.take_succ_cons, List.cons_append, spanN_cons_neg hc]
theorem take_span {p : B → Bool} {l y : List B} {k : Nat} (h : spanN p l ≤ k) (hy : spanN p y = 0) : (l.take k ++ y).takeWhile p = l.takeWhile p := by
  rw [takeWhile_eq_take, takeWhile_eq_take, span_take h hy]
  have hl := spanN_le p l
  rw [List.take_append_of_le_length (by rw [List.length_take]; omega), List.take_take, Nat.min_eq_left h]
theorem insC_inn (rem z : List B) : spanN isInn (insC rem z) = 0 := spanN_cons_neg (by decide)
theorem qb_ten : ∀ (n : Nat) (u z : List B), u.length ≤ n → (∀ c ∈ u, c ≠ 34) → qb (u ++ 10 :: z) = none := by
  intro n
  induction n with
  | zero =>
    intro u z hu _
    have : u = [] := List.length_eq_zero_iff.1 (by omega)
    subst this
    exact qb_stop (c := 10) (by decide) (by show (meantC 10 z).2 = 0; unfold meantC; rw [if_pos (by decide)])
  | succ n ih =>
    intro u z hu h
    cases u with
    | nil => exact qb_stop (c := 10) (by decide) (by show (meantC 10 z).2 = 0; unfold meantC; rw [if_pos (by decide)])
    | cons c r =>
      have hc : c ≠ 34 := h c List.mem_cons_self
      rw [List.cons_append]
      by_cases h0 : (meantP (c :: (r ++ 10 :: z))).2 = 0
      · exact qb_stop hc h0
      · rw [qb_go hc h0]
        have hm := meantP_le (c :: (r ++ 10 :: z))
        have hsub : ∃ v, (c :: (r ++ 10 :: z)).drop (meantP (c :: (r ++ 10 :: z))).2 = v ++ 10 :: z ∧ v.length ≤ n ∧ ∀ x ∈ v, x ≠ 34 := by
          have h12 : (meantP (c :: (r ++ 10 :: z))).2 = 1 ∨ (meantP (c :: (r ++ 10 :: z))).2 = 2 := by omega
          rcases h12 with e | e
          · rw [e]
            exact ⟨r, rfl, by simp only [List.length_cons] at hu; omega, fun x hx => h x (List.mem_cons_of_mem _ hx)⟩
          · cases r with
            | nil =>
              exfalso
              have e' : (meantC c (10 :: z)).2 = 2 := e
              unfold meantC escP at e'
              split at e'
              · simp at e'
              · split at e'
                · simp at e'
                · simp at e'
            | cons d s =>
              rw [e]
              refine ⟨s, rfl, by simp only [List.length_cons] at hu; omega, fun x hx => h x (List.mem_cons_of_mem _ (List.mem_cons_of_mem _ hx))⟩
        obtain ⟨v, e, h1, h2⟩ := hsub
        rw [e, ih v z h1 h2]
        rfl
theorem qb_insC {rem : List B} (z : List B) (h : Plain rem) : qb (insC rem z) = none := by
  unfold insC
  rw [← List.cons_append]
  exact qb_ten _ _ _ (Nat.le_refl _) fun c hc => by
    rcases List.mem_cons.1 hc with rfl | hc
    · decide
    · exact (h c hc).2
theorem escP_ins (rem z : List B) : (escP (insC rem z)).2 = 0 := rfl
theorem meantC_take {c : B} {r y : List B} {j : Nat} (hj : 1 ≤ j) : meantC c (r.take j ++ y) = meantC c r ∨ r = [] := by
  cases r with
  | nil => exact .inr rfl
  | cons d s =>
    obtain ⟨j, rfl⟩ : ∃ i, j = i + 1 := ⟨j - 1, by omega⟩
    exact .inl rfl
theorem qb_pre : ∀ (n : Nat) (l y : List B) (j : Nat), l.length ≤ n → ∀ x, qb l = some x → x.2 ≤ j → qb (l.take j ++ y) = some x := by
  intro n
  induction n with
  | zero =>
    intro l y j hl x h
    have : l = [] := List.length_eq_zero_iff.1 (by omega)
    subst this
    simp [qb] at h
  | succ n ih =>
    intro l y j hl x h hj
    cases l with
    | nil => simp [qb] at h
    | cons c r =>
      by_cases h1 : c = 34
      · subst h1
        rw [qb_quote] at h
        injection h with h
        subst h
        obtain ⟨j, rfl⟩ : ∃ i, j = i + 1 := ⟨j - 1, by simp only at hj; omega⟩
        exact qb_quote
      · by_cases h0 : (meantP (c :: r)).2 = 0
        · rw [qb_stop h1 h0] at h; cases h
        · rw [qb_go h1 h0] at h
          obtain ⟨u, hu, rfl⟩ := Option.map_eq_some_iff.1 h
          have hm := meantP_le (c :: r)
          have hq := qb_le _ _ (Nat.le_refl _) u hu
          simp only at hj
          obtain ⟨j, rfl⟩ : ∃ i, j = i + 1 := ⟨j - 1, by omega⟩
          rw [List.take_succ_cons, List.cons_append]
          have hmt : meantP (c :: (r.take j ++ y)) = meantP (c :: r) := by
            show meantC c (r.take j ++ y) = meantC c r
            rcases meantC_take (c := c) (r := r) (y := y) (j := j) (by omega) with e | e
            · exact e
            · subst e
              exfalso
              rw [List.length_drop] at hq
              simp only [List.length_cons, List.length_nil] at hq
              omega
          rw [qb_go h1 (by rw [hmt]; exact h0), hmt]
          have hdr : (c :: (r.take j ++ y)).drop (meantP (c :: r)).2 = ((c :: r).drop (meantP (c :: r)).2).take (j + 1 - (meantP (c :: r)).2) ++ y := by
            rw [← List.cons_append, ← List.take_succ_cons, List.drop_append_of_le_length (by rw [List.length_take, List.length_cons]; simp only [List.length_cons] at hm; omega), List.drop_take]
          rw [hdr, ih _ y _ (by rw [List.length_drop]; simp only [List.length_cons] at hl ⊢; omega) u hu (by omega)]
          rfl
theorem qb_no {rem : List B} (z : List B) (h : Plain rem) : ∀ (n : Nat) (l : List B) (j : Nat), l.length ≤ n → qb l = none → qb (l.take j ++ insC rem z) = none := by
  intro n
  induction n with
  | zero =>
    intro l j hl _
    have : l = [] := List.length_eq_zero_iff.1 (by omega)
    subst this
    simpa using qb_insC z h
  | succ n ih =>
    intro l j hl hq
    cases l with
    | nil => simpa using qb_insC z h
    | cons c r =>
      cases j with
      | zero => simpa using qb_insC z h
      | succ j =>
        rw [List.take_succ_cons, List.cons_append]
        have h1 : c ≠ 34 := fun e => by subst e; rw [qb_quote] at hq; cases hq
        by_cases h0 : (meantP (c :: (r.take j ++ insC rem z))).2 = 0
        · exact qb_stop h1 h0
        · have hmt : meantP (c :: (r.take j ++ insC rem z)) = meantP (c :: r) ∧ (meantP (c :: r)).2 ≤ j + 1 := by
            have h0' : (meantC c (r.take j ++ insC rem z)).2 ≠ 0 := h0
            show meantC c (r.take j ++ insC rem z) = meantC c r ∧ (meantC c r).2 ≤ j + 1
            cases r with
            | nil =>
              rw [List.take_nil, List.nil_append] at h0' ⊢
              unfold meantC at h0' ⊢
              by_cases hv : vis c = false
              · rw [if_pos hv] at h0'; simp at h0'
              · rw [if_neg hv] at h0' ⊢
                rw [if_neg hv]
                by_cases h92 : c ≠ 92
                · rw [if_pos h92, if_pos h92]; exact ⟨rfl, by simp⟩
                · rw [if_neg h92, escP_ins] at h0'; exact absurd rfl h0'
            | cons d s =>
              cases j with
              | zero =>
                rw [List.take_zero, List.nil_append] at h0' ⊢
                unfold meantC at h0' ⊢
                by_cases hv : vis c = false
                · rw [if_pos hv] at h0'; simp at h0'
                · rw [if_neg hv] at h0' ⊢
                  rw [if_neg hv]
                  by_cases h92 : c ≠ 92
                  · rw [if_pos h92, if_pos h92]; exact ⟨rfl, by simp⟩
                  · rw [if_neg h92, escP_ins] at h0'; exact absurd rfl h0'
              | succ j =>
                refine ⟨rfl, ?_⟩
                have := (meantP_le (c :: d :: s)).2
                change (meantC c (d :: s)).2 ≤ 2 at this
                omega
          obtain ⟨hmt, hmj⟩ := hmt
          rw [hmt] at h0
          rw [qb_go h1 h0] at hq
          have hm := meantP_le (c :: r)
          rw [qb_go h1 (by rw [hmt]; exact h0), hmt]
          have hdr : (c :: (r.take j ++ insC rem z)).drop (meantP (c :: r)).2 = ((c :: r).drop (meantP (c :: r)).2).take (j + 1 - (meantP (c :: r)).2) ++ insC rem z := by
            rw [← List.cons_append, ← List.take_succ_cons, List.drop_append_of_le_length (by rw [List.length_take, List.length_cons]; simp only [List.length_cons] at hm; omega), List.drop_take]
          rw [hdr, ih _ _ (by rw [List.length_drop]; simp only [List.length_cons] at hl ⊢; omega) (by cases hx : qb ((c :: r).drop (meantP (c :: r)).2) with | none => rfl | some x => rw [hx] at hq; cases hq)]
          rfl
theorem nxD_take {r y : List B} {j : Nat} (h : nxD r = true → 1 ≤ j) (hy : nxD y = false) : nxD (r.take j ++ y) = nxD r := by
  cases r with
  | nil => rw [List.take_nil, List.nil_append, hy]; rfl
  | cons d s =>
    cases j with
    | zero =>
      have : nxD (d :: s) = false := by rw [Bool.eq_false_iff]; exact fun e => absurd (h e) (by omega)
      rw [this]
      simpa using hy
    | succ j => rfl
/-- what begins a text is the same if a comment is inserted behind it -/
theorem tok_ins {rem : List B} (z : List B) (h : Plain rem) (c : B) (r : List B) (j : Nat) (hj : (tok1 (c :: r)).2.2 ≤ j + 1) : tok1 (c :: (r.take j ++ insC rem z)) = tok1 (c :: r) := by
  change (tokC c r).2.2 ≤ j + 1 at hj
  show tokC c (r.take j ++ insC rem z) = tokC c r
  unfold tokC at hj ⊢
  by_cases h1 : isLet c = true
  · rw [if_pos h1] at hj
    rw [if_pos h1, if_pos h1]
    simp only at hj
    rw [spanN_cons_pos (inn_let h1)] at hj
    rw [spanN_cons_pos (inn_let h1), spanN_cons_pos (inn_let h1), List.takeWhile_cons_of_pos (inn_let h1), List.takeWhile_cons_of_pos (inn_let h1), take_span (by omega) (insC_inn rem z), span_take (by omega) (insC_inn rem z)]
  · rw [if_neg h1] at hj
    rw [if_neg h1, if_neg h1]
    have hn : nxD (r.take j ++ insC rem z) = nxD r ∨ (c == 45) = false := by
      by_cases h45 : (c == 45) = true
      · refine .inl (nxD_take (fun hx => ?_) rfl)
        rw [if_pos (by rw [h45, hx]; simp)] at hj
        have hsp : 1 ≤ spanN isInn r := by
          cases r with
          | nil => cases hx
          | cons d s => rw [spanN_cons_pos (inn_dig hx)]; omega
        split at hj <;> simp only at hj <;> omega
      · exact .inr (by simpa using h45)
    have hcond : (isDig c || (c == 45 && nxD (r.take j ++ insC rem z))) = (isDig c || (c == 45 && nxD r)) := by
      rcases hn with e | e
      · rw [e]
      · rw [e]; rfl
    rw [hcond]
    by_cases h2 : (isDig c || (c == 45 && nxD r)) = true
    · rw [if_pos h2] at hj
      rw [if_pos h2, if_pos h2]
      have hj' : spanN isInn r ≤ j := by split at hj <;> simp only at hj <;> omega
      rw [take_span hj' (insC_inn rem z), span_take hj' (insC_inn rem z)]
    · rw [if_neg h2] at hj
      rw [if_neg h2, if_neg h2]
      by_cases h3 : c = 34
      · rw [if_pos h3] at hj
        rw [if_pos h3, if_pos h3]
        cases hq : qb r with
        | none => rw [qb_no z h _ r j (Nat.le_refl _) hq]
        | some x =>
          rw [hq] at hj
          simp only at hj
          rw [qb_pre _ r (insC rem z) j (Nat.le_refl _) x hq (by omega)]
      · rw [if_neg h3] at hj
        rw [if_neg h3, if_neg h3]
        by_cases h4 : isSg1 c = true
        · rw [if_pos h4] at hj
          rw [if_pos h4, if_pos h4]
          cases r with
          | nil =>
            rw [List.take_nil, List.nil_append]
            rw [if_neg (by unfold insC; simp [sgnP]), if_neg (by simp)]
          | cons d s =>
            cases j with
            | zero =>
              rw [List.take_zero, List.nil_append]
              by_cases h5 : (sgnP ((c :: d :: s).take 2) && decide (1 ≤ (d :: s).length)) = true
              · rw [if_pos h5] at hj; simp at hj
              · rw [if_neg h5, if_neg (by unfold insC; simp [sgnP])]
            | succ j =>
              have e1 : (c :: ((d :: s).take (j + 1) ++ insC rem z)).take 2 = (c :: d :: s).take 2 := rfl
              have e2 : decide (1 ≤ ((d :: s).take (j + 1) ++ insC rem z).length) = decide (1 ≤ (d :: s).length) := by simp
              rw [e1, e2]
        · rw [if_neg h4, if_neg h4]
theorem scan_bad {f : Nat} {l : List B} {a : Nat} {e : Int} {nb : Nat} {c : B} {r : List B} (h : l.drop (blk false l) = c :: r) (h3 : (tok1 (c :: r)).1 = 0) :
    ∃ e' nb', (scan (f + 1) l a e nb).1 = (scan f ((c :: r).drop (tok1 (c :: r)).2.2) (a + blk false l + (tok1 (c :: r)).2.2) e' nb').1 := by
  conv => enter [1, e', 1, nb', 1]; unfold scan
  rw [h]
  simp only
  rw [if_pos h3]
  split
  · exact ⟨_, _, rfl⟩
  · exact ⟨_, _, rfl⟩
theorem scan_done {f : Nat} {l : List B} {a : Nat} {e : Int} {nb : Nat} (h : l.drop (blk false l) = []) : scan (f + 1) l a e nb = ([⟨5, ⟨#[]⟩, ((a + blk false l : Nat) : Int)⟩], []) := by
  conv => lhs; unfold scan
  rw [h]
/-- kinds and texts do not depend on the offsets -/
theorem scan_kt : ∀ (f : Nat) (l : List B) (a b : Nat) (e e' : Int) (nb nb' : Nat), (scan f l a e nb).1.map kt = (scan f l b e' nb').1.map kt := by
  intro f
  induction f with
  | zero => intros; rfl
  | succ f ih =>
    intro l a b e e' nb nb'
    cases hc : l.drop (blk false l) with
    | nil => rw [scan_done hc, scan_done hc]; rfl
    | cons c r =>
      by_cases h0 : (tok1 (c :: r)).1 = 0
      · obtain ⟨e1, n1, h1⟩ := scan_bad (f := f) (a := a) (e := e) (nb := nb) hc h0
        obtain ⟨e2, n2, h2⟩ := scan_bad (f := f) (a := b) (e := e') (nb := nb') hc h0
        rw [h1, h2]
        exact ih _ _ _ _ _ _ _
      · rw [scan_tok hc h0, scan_tok hc h0]
        simp only [List.map_cons]
        rw [ih _ _ (b + blk false l + (tok1 (c :: r)).2.2) e e' nb nb']
theorem scan_ge : ∀ (f : Nat) (l : List B) (a : Nat) (e : Int) (nb : Nat), ∀ t ∈ (scan f l a e nb).1, (a : Int) ≤ t.a := by
  intro f
  induction f with
  | zero => intro l a e nb t ht; cases ht
  | succ f ih =>
    intro l a e nb t ht
    cases hc : l.drop (blk false l) with
    | nil =>
      rw [scan_done hc] at ht
      obtain rfl := List.mem_singleton.1 ht
      simp only; omega
    | cons c r =>
      by_cases h0 : (tok1 (c :: r)).1 = 0
      · obtain ⟨e1, n1, h1⟩ := scan_bad (f := f) (a := a) (e := e) (nb := nb) hc h0
        rw [h1] at ht
        have := ih _ _ _ _ t ht
        omega
      · rw [scan_tok hc h0] at ht
        rcases List.mem_cons.1 ht with rfl | ht
        · simp only; omega
        · have := ih _ _ _ _ t ht
          omega
theorem scan_ins {rem : List B} (h : Plain rem) (at_ : Nat) : ∀ (f : Nat) (l : List B) (a : Nat) (e : Int) (nb : Nat), l.length < f → (∃ t ∈ (scan f l a e nb).1, t.a = (at_ : Int)) →
    ∀ (F a' : Nat) (e' : Int) (nb' : Nat), l.length + rem.length + 2 < F → (scan F (l.take (at_ - a) ++ insC rem (l.drop (at_ - a))) a' e' nb').1.map kt = (scan f l a e nb).1.map kt := by
  intro f
  induction f with
  | zero => intro l a e nb hf; omega
  | succ f ih =>
    intro l a e nb hf ht F a' e' nb' hF
    obtain ⟨F, rfl⟩ : ∃ G, F = G + 1 := ⟨F - 1, by omega⟩
    have hml := blk_le false l
    by_cases hat : at_ = a + blk false l
    · -- the comment stands ahead of the first token
      have hd : at_ - a = blk false l := by omega
      rw [hd]
      have hb := blk_ins (l.drop (blk false l)) h false l
      rw [blk_drop false l, Nat.add_zero] at hb
      have hdrop : (l.take (blk false l) ++ insC rem (l.drop (blk false l))).drop (blk false (l.take (blk false l) ++ insC rem (l.drop (blk false l)))) = l.drop (blk false l) := by
        rw [hb]
        have hlt : (l.take (blk false l)).length = blk false l := by rw [List.length_take]; omega
        have e1 : blk false l + (rem.length + 2) = (l.take (blk false l) ++ (35 :: rem ++ [10])).length := by
          rw [List.length_append, hlt]; simp
        have e2 : l.take (blk false l) ++ insC rem (l.drop (blk false l)) = (l.take (blk false l) ++ (35 :: rem ++ [10])) ++ l.drop (blk false l) := by
          unfold insC; simp
        rw [e1, e2, List.drop_left]
      cases hc : l.drop (blk false l) with
      | nil => rw [hc] at hdrop; rw [scan_done hdrop, scan_done hc]; rfl
      | cons c r =>
        rw [hc] at hdrop
        have hlen : ((c :: r).drop (tok1 (c :: r)).2.2).length < f ∧ ((c :: r).drop (tok1 (c :: r)).2.2).length < F := by
          have hp := tok1_pos c r
          have := congrArg List.length hc
          rw [List.length_drop, List.length_cons] at this
          rw [List.length_drop, List.length_cons]
          omega
        by_cases h0 : (tok1 (c :: r)).1 = 0
        · obtain ⟨e1, n1, h1⟩ := scan_bad (f := f) (a := a) (e := e) (nb := nb) hc h0
          obtain ⟨e2, n2, h2⟩ := scan_bad (f := F) (a := a') (e := e') (nb := nb') hdrop h0
          rw [h1, h2, scan_fuel F f _ _ _ _ hlen.2 hlen.1]
          exact scan_kt _ _ _ _ _ _ _ _
        · rw [scan_tok hc h0, scan_tok hdrop h0]
          simp only [List.map_cons]
          rw [scan_fuel F f _ _ _ _ hlen.2 hlen.1]
          congr 1
          exact scan_kt _ _ _ _ _ _ _ _
    · -- a token or invalid bytes come first
      cases hc : l.drop (blk false l) with
      | nil =>
        rw [scan_done hc] at ht
        obtain ⟨t, ht, he⟩ := ht
        obtain rfl := List.mem_singleton.1 ht
        simp only at he
        omega
      | cons c r =>
        have hp := tok1_pos c r
        have hlr := congrArg List.length hc
        rw [List.length_drop, List.length_cons] at hlr
        have hrest : ∃ e1 n1, ∃ t ∈ (scan f ((c :: r).drop (tok1 (c :: r)).2.2) (a + blk false l + (tok1 (c :: r)).2.2) e1 n1).1, t.a = (at_ : Int) := by
          obtain ⟨t, ht, he⟩ := ht
          by_cases h0 : (tok1 (c :: r)).1 = 0
          · obtain ⟨e1, n1, h1⟩ := scan_bad (f := f) (a := a) (e := e) (nb := nb) hc h0
            rw [h1] at ht
            exact ⟨e1, n1, t, ht, he⟩
          · rw [scan_tok hc h0] at ht
            rcases List.mem_cons.1 ht with rfl | ht
            · simp only at he; omega
            · exact ⟨e, nb, t, ht, he⟩
        have hge : a + blk false l + (tok1 (c :: r)).2.2 ≤ at_ := by
          obtain ⟨e1, n1, t, ht, he⟩ := hrest
          have := scan_ge _ _ _ _ _ t ht
          omega
        -- the text with the comment
        have hspl : l.take (at_ - a) ++ insC rem (l.drop (at_ - a)) = l.take (blk false l) ++ c :: (r.take (at_ - a - blk false l - 1) ++ insC rem (l.drop (at_ - a))) := by
          have e1 : l.take (at_ - a) = l.take (blk false l) ++ (c :: r).take (at_ - a - blk false l) := by
            rw [← hc, ← List.take_add, show blk false l + (at_ - a - blk false l) = at_ - a by omega]
          have e2 : (c :: r).take (at_ - a - blk false l) = c :: r.take (at_ - a - blk false l - 1) := by
            rw [show at_ - a - blk false l = (at_ - a - blk false l - 1) + 1 by omega, List.take_succ_cons]
            congr 1
          rw [e1, e2]
          simp
        have htk : tok1 (c :: (r.take (at_ - a - blk false l - 1) ++ insC rem (l.drop (at_ - a)))) = tok1 (c :: r) := tok_ins _ h c r _ (by omega)
        have hbp := blk_pre (c := c) (r.take (at_ - a - blk false l - 1) ++ insC rem (l.drop (at_ - a))) false l r hc
        have hdrop : (l.take (blk false l) ++ c :: (r.take (at_ - a - blk false l - 1) ++ insC rem (l.drop (at_ - a)))).drop (blk false (l.take (blk false l) ++ c :: (r.take (at_ - a - blk false l - 1) ++ insC rem (l.drop (at_ - a))))) = c :: (r.take (at_ - a - blk false l - 1) ++ insC rem (l.drop (at_ - a))) := by
          rw [hbp]
          have hlt : (l.take (blk false l)).length = blk false l := by rw [List.length_take]; omega
          conv => lhs; arg 1; rw [← hlt]
          rw [List.drop_left]
        have hl0 : ∀ n, a + blk false l + n ≤ at_ → l.drop (at_ - a) = ((c :: r).drop n).drop (at_ - (a + blk false l + n)) := fun n hn => by
          rw [← hc, List.drop_drop, List.drop_drop]
          congr 1
          omega
        have hl' := hl0 _ hge
        have hnx : (c :: (r.take (at_ - a - blk false l - 1) ++ insC rem (l.drop (at_ - a)))).drop (tok1 (c :: r)).2.2 = ((c :: r).drop (tok1 (c :: r)).2.2).take (at_ - (a + blk false l + (tok1 (c :: r)).2.2)) ++ insC rem (((c :: r).drop (tok1 (c :: r)).2.2).drop (at_ - (a + blk false l + (tok1 (c :: r)).2.2))) := by
          rw [← hl', ← List.cons_append]
          have e2 : c :: r.take (at_ - a - blk false l - 1) = (c :: r).take (at_ - a - blk false l) := by
            rw [show at_ - a - blk false l = (at_ - a - blk false l - 1) + 1 by omega, List.take_succ_cons]
            congr 1
          rw [e2, List.drop_append_of_le_length (by rw [List.length_take, List.length_cons]; omega), List.drop_take]
          congr 2
          omega
        rw [hspl]
        have hih := fun (e1 : Int) (n1 : Nat) (hx : ∃ t ∈ (scan f ((c :: r).drop (tok1 (c :: r)).2.2) (a + blk false l + (tok1 (c :: r)).2.2) e1 n1).1, t.a = (at_ : Int)) (G b : Nat) (e2 : Int) (n2 : Nat) (hG : _) => ih ((c :: r).drop (tok1 (c :: r)).2.2) (a + blk false l + (tok1 (c :: r)).2.2) e1 n1 (by rw [List.length_drop, List.length_cons]; omega) hx G b e2 n2 hG
        obtain ⟨e0, n0, hx0⟩ := hrest
        by_cases h0 : (tok1 (c :: r)).1 = 0
        · obtain ⟨e1, n1, h1⟩ := scan_bad (f := f) (a := a) (e := e) (nb := nb) hc h0
          obtain ⟨e2, n2, h2⟩ := scan_bad (f := F) (a := a') (e := e') (nb := nb') hdrop (by rw [htk]; exact h0)
          rw [h1, h2, htk, hnx, hih e0 n0 hx0 F _ e2 n2 (by rw [List.length_drop, List.length_cons]; omega)]
          exact scan_kt _ _ _ _ _ _ _ _
        · rw [scan_tok hc h0, scan_tok hdrop (by rw [htk]; exact h0)]
          simp only [List.map_cons]
          rw [htk, hnx, hih e0 n0 hx0 F _ e' nb' (by rw [List.length_drop, List.length_cons]; omega)]
          congr 1
          exact scan_kt _ _ _ _ _ _ _ _
theorem scan_le : ∀ (f : Nat) (l : List B) (a : Nat) (e : Int) (nb : Nat), ∀ t ∈ (scan f l a e nb).1, ∃ k : Nat, t.a = (k : Int) ∧ k ≤ a + l.length := by
  intro f
  induction f with
  | zero => intro l a e nb t ht; cases ht
  | succ f ih =>
    intro l a e nb t ht
    have hml := blk_le false l
    cases hc : l.drop (blk false l) with
    | nil =>
      rw [scan_done hc] at ht
      obtain rfl := List.mem_singleton.1 ht
      exact ⟨_, rfl, by omega⟩
    | cons c r =>
      have hp := tok1_pos c r
      have hlr := congrArg List.length hc
      rw [List.length_drop, List.length_cons] at hlr
      by_cases h0 : (tok1 (c :: r)).1 = 0
      · obtain ⟨e1, n1, h1⟩ := scan_bad (f := f) (a := a) (e := e) (nb := nb) hc h0
        rw [h1] at ht
        obtain ⟨k, h2, h3⟩ := ih _ _ _ _ t ht
        rw [List.length_drop, List.length_cons] at h3
        exact ⟨k, h2, by omega⟩
      · rw [scan_tok hc h0] at ht
        rcases List.mem_cons.1 ht with rfl | ht
        · exact ⟨_, rfl, by omega⟩
        · obtain ⟨k, h2, h3⟩ := ih _ _ _ _ t ht
          rw [List.length_drop, List.length_cons] at h3
          exact ⟨k, h2, by omega⟩
theorem toks_le {S : List B} {t : Tk} (ht : t ∈ (toks S).1) : ∃ k : Nat, t.a = (k : Int) ∧ k ≤ S.length := by
  obtain ⟨k, h1, h2⟩ := scan_le _ _ _ _ _ t ht
  exact ⟨k, h1, by omega⟩
theorem toks_ins {rem S : List B} (h : Plain rem) {t : Tk} (ht : t ∈ (toks S).1) {k : Nat} (hk : t.a = (k : Int)) : (toks (S.take k ++ insC rem (S.drop k))).1.map kt = (toks S).1.map kt := by
  have := scan_ins h k (S.length + 1) S 0 (-1) 0 (Nat.lt_succ_self _) ⟨t, ht, hk⟩ ((S.take k ++ insC rem (S.drop k)).length + 1) 0 (-1) 0 (by
    have e := congrArg List.length (List.take_append_drop k S)
    rw [List.length_append] at e
    rw [List.length_append]
    unfold insC
    simp only [List.length_cons, List.length_append]
    omega)
  exact this
end Lx
