/- Plain mathematics of the tokens of texts: no program. -/
namespace Lx
set_option linter.unusedSimpArgs false
set_option linter.unusedVariables false

abbrev B := UInt8
/-- the class of a byte -/
def clsT : List Nat := [0, 0, 0, 0, 0, 0, 0, 0, 0, 64, 64, 0, 0, 64, 0, 0, 0, 0, 0, 0, 0, 0, 0, 0, 0, 0, 0, 0, 0, 0, 0, 0, 64, 0, 16, 128, 0, 0, 0, 0, 32, 32, 0, 0, 32, 8, 0, 32, 2, 2, 2, 2, 2, 2, 2, 2, 2, 2, 32, 32, 32, 32, 32, 0, 0, 1, 1, 1, 1, 1, 1, 1, 1, 1, 1, 1, 1, 1, 1, 1, 1, 1, 1, 1, 1, 1, 1, 1, 1, 1, 1, 32, 0, 32, 0, 4, 0, 1, 1, 1, 1, 1, 1, 1, 1, 1, 1, 1, 1, 1, 1, 1, 1, 1, 1, 1, 1, 1, 1, 1, 1, 1, 1, 32, 0, 32, 0, 0]
def cls (c : B) : Nat := clsT.getD c.toNat 0
def isLet (c : B) : Bool := cls c == 1
def isDig (c : B) : Bool := cls c == 2
def isInn (c : B) : Bool := cls c == 1 || cls c == 2 || cls c == 4
def isSg1 (c : B) : Bool := cls c == 32
def isSpc (c : B) : Bool := cls c == 64
def vis (c : B) : Bool := decide (32 ≤ c.toNat) && decide (c.toNat ≤ 126)

theorem all256 {P : Nat → Prop} (h : ∀ n, n < 256 → P n) (c : B) : P c.toNat := h _ c.toNat_lt
theorem isLet_iff (c : B) : isLet c = true ↔ (97 ≤ c.toNat ∧ c.toNat ≤ 122) ∨ (65 ≤ c.toNat ∧ c.toNat ≤ 90) := by
  unfold isLet cls
  have := all256 (P := fun n => ((clsT.getD n 0 == 1) = true ↔ (97 ≤ n ∧ n ≤ 122) ∨ (65 ≤ n ∧ n ≤ 90))) (by decide +kernel) c
  exact this
theorem isDig_iff (c : B) : isDig c = true ↔ 48 ≤ c.toNat ∧ c.toNat ≤ 57 := by
  unfold isDig cls
  exact all256 (P := fun n => ((clsT.getD n 0 == 2) = true ↔ 48 ≤ n ∧ n ≤ 57)) (by decide +kernel) c
theorem isInn_iff (c : B) : isInn c = true ↔ (97 ≤ c.toNat ∧ c.toNat ≤ 122) ∨ (65 ≤ c.toNat ∧ c.toNat ≤ 90) ∨ (48 ≤ c.toNat ∧ c.toNat ≤ 57) ∨ c.toNat = 95 := by
  unfold isInn cls
  exact all256 (P := fun n => ((clsT.getD n 0 == 1 || clsT.getD n 0 == 2 || clsT.getD n 0 == 4) = true ↔ (97 ≤ n ∧ n ≤ 122) ∨ (65 ≤ n ∧ n ≤ 90) ∨ (48 ≤ n ∧ n ≤ 57) ∨ n = 95)) (by decide +kernel) c
theorem isSpc_iff (c : B) : isSpc c = true ↔ c.toNat = 32 ∨ c.toNat = 9 ∨ c.toNat = 10 ∨ c.toNat = 13 := by
  unfold isSpc cls
  exact all256 (P := fun n => ((clsT.getD n 0 == 64) = true ↔ n = 32 ∨ n = 9 ∨ n = 10 ∨ n = 13)) (by decide +kernel) c
theorem isSg1_iff (c : B) : isSg1 c = true ↔ c.toNat ∈ [123, 125, 40, 41, 91, 93, 59, 44, 58, 47, 61, 60, 62] := by
  unfold isSg1 cls
  exact all256 (P := fun n => ((clsT.getD n 0 == 32) = true ↔ n ∈ [123, 125, 40, 41, 91, 93, 59, 44, 58, 47, 61, 60, 62])) (by decide +kernel) c
theorem cls_minus (c : B) : cls c = 8 ↔ c.toNat = 45 := by
  unfold cls
  exact all256 (P := fun n => (clsT.getD n 0 = 8 ↔ n = 45)) (by decide +kernel) c
theorem cls_quote (c : B) : cls c = 16 ↔ c.toNat = 34 := by
  unfold cls
  exact all256 (P := fun n => (clsT.getD n 0 = 16 ↔ n = 34)) (by decide +kernel) c
theorem cls_hash (c : B) : cls c = 128 ↔ c.toNat = 35 := by
  unfold cls
  exact all256 (P := fun n => (clsT.getD n 0 = 128 ↔ n = 35)) (by decide +kernel) c
theorem cls_mem (c : B) : cls c ∈ [0, 1, 2, 4, 8, 16, 32, 64, 128] := by
  unfold cls
  exact all256 (P := fun n => (clsT.getD n 0 ∈ [0, 1, 2, 4, 8, 16, 32, 64, 128])) (by decide +kernel) c
theorem cls_high (c : B) (h : 128 ≤ c.toNat) : cls c = 0 := by
  unfold cls
  rw [List.getD_eq_getElem?_getD, List.getElem?_eq_none (by show 128 ≤ c.toNat; exact h)]
  rfl
theorem eq_byte {c : B} {n : Nat} (hn : n < 256) : c = UInt8.ofNat n ↔ c.toNat = n := by
  constructor
  · rintro rfl
    rw [UInt8.toNat_ofNat']
    exact Nat.mod_eq_of_lt hn
  · intro h
    apply UInt8.toNat.inj
    rw [UInt8.toNat_ofNat', h]
    exact (Nat.mod_eq_of_lt hn).symm

def spanN (p : B → Bool) (l : List B) : Nat := (l.takeWhile p).length
theorem takeWhile_eq_take (p : B → Bool) : ∀ l : List B, l.takeWhile p = l.take (spanN p l)
  | [] => rfl
  | c :: r => by
    unfold spanN
    by_cases h : p c = true
    · rw [List.takeWhile_cons_of_pos h]
      simp only [List.length_cons, List.take_succ_cons]
      congr 1
      exact takeWhile_eq_take p r
    · rw [List.takeWhile_cons_of_neg h]
      rfl
theorem spanN_le (p : B → Bool) (l : List B) : spanN p l ≤ l.length := by
  unfold spanN
  have := congrArg List.length (List.takeWhile_append_dropWhile (p := p) (l := l))
  simp only [List.length_append] at this
  omega
theorem spanN_cons_pos {p : B → Bool} {c : B} {r : List B} (h : p c = true) : spanN p (c :: r) = spanN p r + 1 := by
  unfold spanN; rw [List.takeWhile_cons_of_pos h]; rfl
theorem spanN_cons_neg {p : B → Bool} {c : B} {r : List B} (h : ¬ p c = true) : spanN p (c :: r) = 0 := by
  unfold spanN; rw [List.takeWhile_cons_of_neg h]; rfl
theorem spanN_all {p : B → Bool} : ∀ {l : List B}, spanN p l = l.length ↔ l.all p = true
  | [] => by simp [spanN]
  | c :: r => by
    by_cases h : p c = true
    · rw [spanN_cons_pos h, List.all_cons, h, Bool.true_and, ← spanN_all (l := r), List.length_cons]
      omega
    · rw [spanN_cons_neg h, List.all_cons]
      simp [h]

/-- without a minus in front -/
def unMinus (l : List B) : List B := match l with
  | [] => []
  | c :: r => if c = 45 then r else c :: r
def intP (l : List B) : Bool := l == [48] || (decide (0 < (unMinus l).length) && decide ((unMinus l).length ≤ 18) && ((unMinus l).head? != some 48) && (unMinus l).all isDig)
def wordP (l : List B) : Bool := (match l with | [] => false | c :: _ => isLet c) && l.all isInn
def sgnP (l : List B) : Bool := l == [60, 61] || l == [62, 61] || (match l with | [c] => isSg1 c | _ => false)
def cntP (l : List B) : Bool := l.all fun c => c == 10 || vis c

/-- the byte that stands within quotes, with how many bytes: 0, if none does -/
def escP : List B → B × Nat
  | [] => (0, 0)
  | d :: _ => if d = 110 then (10, 2) else if d = 34 ∨ d = 92 then (d, 2) else (0, 0)
def meantC (c : B) (r : List B) : B × Nat := if vis c = false then (0, 0) else if c ≠ 92 then (c, 1) else escP r
def meantP : List B → B × Nat
  | [] => (0, 0)
  | c :: r => meantC c r
/-- what stands behind an opening quote: the contents, and how many bytes with the closing quote -/
def qb : List B → Option (List B × Nat)
  | [] => none
  | c :: [] => if c = 34 then some ([], 1) else none
  | c :: d :: s => if c = 34 then some ([], 1) else if vis c = false then none else if c ≠ 92 then (qb (d :: s)).map fun x => (c :: x.1, x.2 + 1) else
    if d = 110 then (qb s).map fun x => (10 :: x.1, x.2 + 2) else if d = 34 ∨ d = 92 then (qb s).map fun x => (d :: x.1, x.2 + 2) else none
theorem qb_nil : qb [] = none := rfl
theorem qb_quote {r : List B} : qb (34 :: r) = some ([], 1) := by cases r <;> rfl
theorem qb_one {c : B} (h : c ≠ 34) : qb [c] = none := by unfold qb; rw [if_neg h]
theorem qb_two {c d : B} {s : List B} (h : c ≠ 34) : qb (c :: d :: s) = if vis c = false then none else if c ≠ 92 then (qb (d :: s)).map fun x => (c :: x.1, x.2 + 1) else
    if d = 110 then (qb s).map fun x => (10 :: x.1, x.2 + 2) else if d = 34 ∨ d = 92 then (qb s).map fun x => (d :: x.1, x.2 + 2) else none := by
  rw [qb, if_neg h]
theorem qb_stop {c : B} {r : List B} (h : c ≠ 34) (h0 : (meantP (c :: r)).2 = 0) : qb (c :: r) = none := by
  cases r with
  | nil => exact qb_one h
  | cons d s =>
    rw [qb_two h]
    change (meantC c (d :: s)).2 = 0 at h0
    unfold meantC escP at h0
    by_cases hv : vis c = false
    · rw [if_pos hv]
    · rw [if_neg hv] at h0 ⊢
      by_cases h2 : c ≠ 92
      · rw [if_pos h2] at h0; simp at h0
      · rw [if_neg h2] at h0 ⊢
        simp only at h0 ⊢
        by_cases h3 : d = 110
        · rw [if_pos h3] at h0; simp at h0
        · rw [if_neg h3] at h0 ⊢
          by_cases h4 : d = 34 ∨ d = 92
          · rw [if_pos h4] at h0; simp at h0
          · rw [if_neg h4]
theorem qb_go {c : B} {r : List B} (h : c ≠ 34) (h0 : (meantP (c :: r)).2 ≠ 0) : qb (c :: r) = (qb ((c :: r).drop (meantP (c :: r)).2)).map fun x => ((meantP (c :: r)).1 :: x.1, x.2 + (meantP (c :: r)).2) := by
  change (meantC c r).2 ≠ 0 at h0
  show qb (c :: r) = (qb ((c :: r).drop (meantC c r).2)).map fun x => ((meantC c r).1 :: x.1, x.2 + (meantC c r).2)
  cases r with
  | nil =>
    rw [qb_one h]
    unfold meantC escP at h0 ⊢
    by_cases hv : vis c = false
    · rw [if_pos hv] at h0; simp at h0
    · rw [if_neg hv] at h0 ⊢
      by_cases h2 : c ≠ 92
      · rw [if_pos h2]; rfl
      · rw [if_neg h2] at h0; simp at h0
  | cons d s =>
    rw [qb_two h]
    unfold meantC escP at h0 ⊢
    by_cases hv : vis c = false
    · rw [if_pos hv] at h0; simp at h0
    · rw [if_neg hv] at h0
      rw [if_neg hv, if_neg hv]
      by_cases h2 : c ≠ 92
      · rw [if_pos h2, if_pos h2]; rfl
      · rw [if_neg h2] at h0
        rw [if_neg h2, if_neg h2]
        simp only at h0 ⊢
        by_cases h3 : d = 110
        · rw [if_pos h3, if_pos h3]; rfl
        · rw [if_neg h3] at h0
          rw [if_neg h3, if_neg h3]
          by_cases h4 : d = 34 ∨ d = 92
          · rw [if_pos h4, if_pos h4]; rfl
          · rw [if_neg h4] at h0; simp at h0
theorem meantP_le (l : List B) : (meantP l).2 ≤ l.length ∧ (meantP l).2 ≤ 2 := by
  cases l with
  | nil => exact ⟨Nat.le_refl _, by decide⟩
  | cons c r =>
    show (meantC c r).2 ≤ (c :: r).length ∧ (meantC c r).2 ≤ 2
    unfold meantC escP
    by_cases hv : vis c = false
    · rw [if_pos hv]; simp
    · rw [if_neg hv]
      by_cases h2 : c ≠ 92
      · rw [if_pos h2]; simp
      · rw [if_neg h2]
        cases r with
        | nil => simp
        | cons d s =>
          simp only
          split
          · simp
          · split <;> simp
theorem qb_le : ∀ (n : Nat) (l : List B), l.length ≤ n → ∀ x, qb l = some x → 1 ≤ x.2 ∧ x.2 ≤ l.length := by
  intro n
  induction n with
  | zero =>
    intro l hl x h
    have : l = [] := List.length_eq_zero_iff.1 (by omega)
    subst this
    simp [qb] at h
  | succ n ih =>
    intro l hl x h
    cases l with
    | nil => simp [qb] at h
    | cons c r =>
      by_cases h1 : c = 34
      · subst h1
        rw [qb_quote] at h
        injection h with h
        subst h
        simp
      · by_cases h0 : (meantP (c :: r)).2 = 0
        · rw [qb_stop h1 h0] at h; cases h
        · rw [qb_go h1 h0] at h
          obtain ⟨y, hy, rfl⟩ := Option.map_eq_some_iff.1 h
          have hm := meantP_le (c :: r)
          have := ih _ (by rw [List.length_drop]; simp only [List.length_cons] at hl ⊢; omega) y hy
          rw [List.length_drop] at this
          simp only at this ⊢
          omega

/-- how many bytes of white space and comments -/
def blk : Bool → List B → Nat
  | _, [] => 0
  | true, c :: r => if c = 10 then 1 + blk false r else 1 + blk true r
  | false, c :: r => if isSpc c then 1 + blk false r else if c = 35 then 1 + blk true r else 0
theorem blk_le : ∀ (b : Bool) (l : List B), blk b l ≤ l.length
  | _, [] => by unfold blk; exact Nat.le_refl _
  | true, c :: r => by
    have h1 := blk_le false r; have h2 := blk_le true r
    unfold blk; split <;> simp only [List.length_cons] <;> omega
  | false, c :: r => by
    have h1 := blk_le false r; have h2 := blk_le true r
    unfold blk; split
    · simp only [List.length_cons]; omega
    · split <;> simp only [List.length_cons] <;> omega

def nxD : List B → Bool
  | [] => false
  | d :: _ => isDig d
/-- the token at the beginning of a text that begins with no white space: kind (0: invalid), text, number of bytes -/
def tokC (c : B) (r : List B) : Nat × List B × Nat :=
    if isLet c then (1, (c :: r).takeWhile isInn, spanN isInn (c :: r))
    else if isDig c || (c == 45 && nxD r) then
      if intP (c :: r.takeWhile isInn) then (2, c :: r.takeWhile isInn, spanN isInn r + 1) else (0, [], spanN isInn r + 1)
    else if c = 34 then match qb r with | some x => (3, x.1, x.2 + 1) | none => (0, [], 1)
    else if isSg1 c then (if sgnP ((c :: r).take 2) && decide (1 ≤ r.length) then (4, (c :: r).take 2, 2) else (4, [c], 1))
    else (0, [], 1)
def tok1 : List B → Nat × List B × Nat
  | [] => (5, [], 0)
  | c :: r => tokC c r
theorem tok1_pos (c : B) (r : List B) : 1 ≤ (tok1 (c :: r)).2.2 ∧ (tok1 (c :: r)).2.2 ≤ r.length + 1 := by
  have h1 := spanN_le isInn r
  show 1 ≤ (tokC c r).2.2 ∧ (tokC c r).2.2 ≤ r.length + 1
  unfold tokC
  split
  · rename_i h
    have hi : isInn c = true := by unfold isInn; unfold isLet at h; simp [h]
    rw [spanN_cons_pos hi]
    simp only
    omega
  · split
    · split <;> simp only <;> omega
    · split
      · cases hq : qb r with
        | none => simp
        | some x =>
          have := qb_le r.length r (Nat.le_refl _) x hq
          simp only
          omega
      · split
        · split
          · rename_i h
            rw [Bool.and_eq_true] at h
            have := of_decide_eq_true h.2
            simp only
            omega
          · simp
        · simp

structure Tk where
  k : Int
  t : ByteArray
  a : Int
deriving DecidableEq
/-- the tokens of a text, and the offsets of its problems -/
def scan : Nat → List B → Nat → Int → Nat → List Tk × List Int
  | 0, _, _, _, _ => ([], [])
  | f + 1, l, a, e, nb =>
    match l.drop (blk false l) with
    | [] => ([⟨5, ⟨#[]⟩, ((a + blk false l : Nat) : Int)⟩], [])
    | c :: r =>
      if (tok1 (c :: r)).1 = 0 then
        if ((a + blk false l : Nat) : Int) ≠ e ∧ nb < 64 then
          ((scan f ((c :: r).drop (tok1 (c :: r)).2.2) (a + blk false l + (tok1 (c :: r)).2.2) ((a + blk false l + (tok1 (c :: r)).2.2 : Nat) : Int) (nb + 1)).1,
            ((a + blk false l : Nat) : Int) :: (scan f ((c :: r).drop (tok1 (c :: r)).2.2) (a + blk false l + (tok1 (c :: r)).2.2) ((a + blk false l + (tok1 (c :: r)).2.2 : Nat) : Int) (nb + 1)).2)
        else scan f ((c :: r).drop (tok1 (c :: r)).2.2) (a + blk false l + (tok1 (c :: r)).2.2) ((a + blk false l + (tok1 (c :: r)).2.2 : Nat) : Int) nb
      else
        (⟨(tok1 (c :: r)).1, ⟨(tok1 (c :: r)).2.1.toArray⟩, ((a + blk false l : Nat) : Int)⟩ :: (scan f ((c :: r).drop (tok1 (c :: r)).2.2) (a + blk false l + (tok1 (c :: r)).2.2) e nb).1,
          (scan f ((c :: r).drop (tok1 (c :: r)).2.2) (a + blk false l + (tok1 (c :: r)).2.2) e nb).2)
theorem scan_fuel : ∀ (f g : Nat) (l : List B) (a : Nat) (e : Int) (nb : Nat), l.length < f → l.length < g → scan f l a e nb = scan g l a e nb := by
  intro f
  induction f with
  | zero => intro g l a e nb h; omega
  | succ f ih =>
    intro g l a e nb hf hg
    obtain ⟨g, rfl⟩ : ∃ g', g = g' + 1 := ⟨g - 1, by omega⟩
    unfold scan
    have hd : (l.drop (blk false l)).length ≤ l.length := by rw [List.length_drop]; omega
    cases hc : l.drop (blk false l) with
    | nil => rfl
    | cons c r =>
      rw [hc] at hd
      have hp := tok1_pos c r
      have hlen : ((c :: r).drop (tok1 (c :: r)).2.2).length < f ∧ ((c :: r).drop (tok1 (c :: r)).2.2).length < g := by
        rw [List.length_drop]
        simp only [List.length_cons] at hd ⊢
        omega
      simp only
      rw [ih g _ _ _ (nb + 1) hlen.1 hlen.2, ih g _ _ ((a + blk false l + (tok1 (c :: r)).2.2 : Nat) : Int) nb hlen.1 hlen.2, ih g _ _ e nb hlen.1 hlen.2]
def toks (l : List B) : List Tk × List Int := scan (l.length + 1) l 0 (-1) 0
end Lx
