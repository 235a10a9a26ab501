/- What is written is read back, and what is read was so written: pure mathematics of the codec's encodings. -/
import Derived.Test.YtdmaopfaeigelaaGreatDoorCodNTI
import Derived.Test.YtdmaopfaeigelaaGreatDoorCodWrite3
import Derived.Lib.AtoiAllCases
namespace Go.Proofs.YtdmaopfaeigelaaGreatDoor
set_option linter.unusedSimpArgs false
set_option linter.unusedVariables false
open Go.RowKit

/-! numbers -/
theorem dig_toNat {k : Nat} (h : k < 10) : (UInt8.ofNat (48 + k)).toNat = 48 + k := by
  rw [UInt8.toNat_ofNat']
  omega
theorem pu_digits (u : Nat) : ∀ (r : List UInt8), u < 18446744073709551616 → Lib.parseUint10 0 (Lib.decDigits u ++ r) = Lib.parseUint10 u r := by
  induction u using Nat.strongRecOn with
  | _ u ih =>
    intro r hu
    by_cases h : u < 10
    · rw [Lib.decDigits_one h]
      simp only [List.cons_append, List.nil_append, Lib.parseUint10, dig_toNat h]
      rw [if_pos (by omega), if_neg (by omega), if_neg (by omega)]
      congr 1; omega
    · rw [Lib.decDigits, dif_neg h, List.append_assoc, ih (u / 10) (by omega) _ (by omega)]
      have hm : u % 10 < 10 := Nat.mod_lt _ (by decide)
      simp only [List.cons_append, List.nil_append, Lib.parseUint10, dig_toNat hm]
      rw [if_pos (by omega), if_neg (by omega), if_neg (by omega)]
      congr 1; omega
theorem dd_mem (u : Nat) : ∀ b ∈ Lib.decDigits u, 48 ≤ b.toNat ∧ b.toNat ≤ 57 := by
  induction u using Nat.strongRecOn with
  | _ u ih =>
    intro b hb
    by_cases h : u < 10
    · rw [Lib.decDigits_one h] at hb
      obtain rfl := List.mem_singleton.1 hb
      rw [dig_toNat h]
      omega
    · have hm : u % 10 < 10 := Nat.mod_lt _ (by decide)
      rw [Lib.decDigits, dif_neg h] at hb
      rcases List.mem_append.1 hb with hb | hb
      · exact ih (u / 10) (by omega) b hb
      · obtain rfl := List.mem_singleton.1 hb
        rw [dig_toNat hm]
        omega
theorem dd_ne (u : Nat) : Lib.decDigits u ≠ [] := by
  intro h
  have := Lib.decDigits_length u
  rw [h] at this
  have := Lib.nDigits_pos u
  simp at *
  omega
theorem mag_digits {u : Nat} (h : u < 18446744073709551616) : Lib.parseMag (Lib.decDigits u) = .ok u := by
  unfold Lib.parseMag
  rw [if_neg (dd_ne u)]
  have := pu_digits u [] h
  rw [List.append_nil] at this
  rw [this]
  rfl
theorem atoi_itoa {n : Int} (h : I64 n) : Lib.atoiAll (Lib.itoa n) = .ok n := by
  obtain ⟨h0, h1⟩ := h
  unfold Lib.itoa
  split
  · rename_i hn
    rw [Lib.atoiAll_minus, mag_digits (by omega)]
    simp only [Lib.signed]
    rw [if_neg (by omega)]
    congr 1; omega
  · rename_i hn
    have hp := mag_digits (u := n.toNat) (by omega)
    cases hd : Lib.decDigits n.toNat with
    | nil => exact absurd hd (dd_ne _)
    | cons c r =>
      have hc := dd_mem n.toNat c (by rw [hd]; exact List.mem_cons_self)
      rw [Lib.atoiAll_plain c r (by omega) (by omega), ← hd, hp]
      simp only [Lib.signless]
      rw [if_neg (by omega)]
      congr 1; omega
theorem itoa_mem {n : Int} {b : UInt8} (h : b ∈ Lib.itoa n) : b.toNat = 45 ∨ (48 ≤ b.toNat ∧ b.toNat ≤ 57) := by
  unfold Lib.itoa at h
  split at h
  · rcases List.mem_cons.1 h with h | h
    · left; subst h; rfl
    · right; exact dd_mem _ b h
  · right; exact dd_mem _ b h
theorem itoa_nat_mem {n : Nat} {b : UInt8} (h : b ∈ Lib.itoa (n : Int)) : 48 ≤ b.toNat ∧ b.toNat ≤ 57 := by
  unfold Lib.itoa at h
  rw [if_neg (by omega)] at h
  exact dd_mem _ b h
theorem itoa_ne (n : Int) : Lib.itoa n ≠ [] := by
  unfold Lib.itoa
  split
  · simp
  · exact dd_ne _
theorem index_skip (c : UInt8) (r : List UInt8) : ∀ (l : List UInt8), (∀ b ∈ l, b ≠ c) → Lib.indexByte (l ++ c :: r) c = (l.length : Int)
  | [], _ => by simp [Lib.indexByte]
  | b :: l, h => by
    have hb : (b == c) = false := by simpa using h b List.mem_cons_self
    have ih := index_skip c r l fun x hx => h x (List.mem_cons_of_mem _ hx)
    simp only [List.cons_append, Lib.indexByte, hb, ih, List.length_cons]
    have : (((l.length : Int)) == -1) = false := by simp
    rw [this]
    simp
theorem index_hit (c : UInt8) : ∀ (l : List UInt8) (k : Nat), Lib.indexByte l c = (k : Int) → l = l.take k ++ c :: l.drop (k + 1)
  | [], k, h => by
    have h : (-1 : Int) = (k : Int) := h
    omega
  | b :: l, k, h => by
    simp only [Lib.indexByte] at h
    split at h
    · rename_i hb
      obtain rfl : k = 0 := by omega
      have : b = c := by simpa using hb
      subst this
      simp
    · split at h
      · omega
      · rename_i h1
        cases k with
        | zero =>
          have := index_range l c
          simp at h1
          omega
        | succ k =>
          have ih := index_hit c l k (by omega)
          simp only [List.take_succ_cons, List.drop_succ_cons, List.cons_append]
          rw [← ih]
theorem numP_itoa (stop : UInt8) (n : Int) (rest : List UInt8) (h : I64 n) (hs : ∀ b ∈ Lib.itoa n, b ≠ stop) : numP stop (Lib.itoa n ++ stop :: rest) = some (n, rest) := by
  have e1 : (Lib.itoa n ++ stop :: rest).take (Lib.itoa n).length = Lib.itoa n := List.take_left' rfl
  have e2 : (Lib.itoa n ++ stop :: rest).drop ((Lib.itoa n).length + 1) = rest := by
    rw [← List.drop_drop, List.drop_left' rfl]
    rfl
  unfold numP
  rw [index_skip _ _ _ hs, if_neg (by omega)]
  simp only [Int.toNat_natCast, e1, e2, atoi_itoa h, if_true]
theorem numP_back {stop : UInt8} {bs rest : List UInt8} {n : Int} (h : numP stop bs = some (n, rest)) : bs = Lib.itoa n ++ stop :: rest ∧ I64 n := by
  unfold numP at h
  split at h
  · cases h
  · rename_i hi
    obtain ⟨k, hk⟩ : ∃ k : Nat, Lib.indexByte bs stop = k := ⟨(Lib.indexByte bs stop).toNat, by omega⟩
    have hb := index_hit stop bs k hk
    rw [hk] at h
    simp only [Int.toNat_natCast] at h
    split at h
    · rename_i v hv
      split at h
      · rename_i he
        injection h with h
        injection h with h1 h2
        subst h1 h2
        refine ⟨?_, atoi_range hv⟩
        rw [he]
        exact hb
      · cases h
    · cases h

/-! texts -/
theorem bytes_eta (s : ByteArray) : (⟨s.data.toList.toArray⟩ : ByteArray) = s := by cases s; simp
theorem ne58 {n : Nat} : ∀ b ∈ Lib.itoa (n : Int), b ≠ 58 := fun b hb e => by
  have := itoa_nat_mem hb
  subst e
  have : (58 : UInt8).toNat = 58 := rfl
  omega
theorem textP_encT (s : ByteArray) (rest : List UInt8) (hs : s.size ≤ 140737488351232) : textP (encT s ++ rest) = some (s.data.toList, rest) := by
  have e : s.data.toList.length = s.size := by simp
  unfold textP
  have h1 : encT s ++ rest = Lib.itoa (s.size : Int) ++ 58 :: (s.data.toList ++ rest) := by simp [encT, List.append_assoc]
  rw [h1, numP_itoa 58 _ _ ⟨by omega, by omega⟩ ne58]
  simp only [Int.toNat_natCast]
  rw [if_pos ⟨by omega, by rw [List.length_append, e]; omega⟩, List.take_left' e, List.drop_left' e]
theorem textP_back {bs s rest : List UInt8} (h : textP bs = some (s, rest)) : bs = encT ⟨s.toArray⟩ ++ rest := by
  unfold textP at h
  cases hn : numP 58 bs with
  | none => rw [hn] at h; cases h
  | some p =>
    obtain ⟨n, r⟩ := p
    rw [hn] at h
    simp only at h
    obtain ⟨hb, _⟩ := numP_back hn
    split at h
    · rename_i hr
      injection h with h
      injection h with h1 h2
      subst h1 h2
      have e : ((⟨(r.take n.toNat).toArray⟩ : ByteArray).size : Int) = n := by
        show (((r.take n.toNat).toArray.size : Nat) : Int) = n
        simp
        omega
      rw [encT, e, hb]
      simp
    · cases h

/-! values -/
mutual
def Va.bd : Va → Prop
  | .mk k n s l ks => I64 n ∧ s.size ≤ 140737488351232 ∧ bdAll l ∧ ∀ (i : Nat) (q : ByteArray), ks[i]? = some q → q.size ≤ 140737488351232
def bdAll : List Va → Prop
  | [] => True
  | x :: r => x.bd ∧ bdAll r
end
theorem bdAll_of : ∀ (l : List Va), (∀ (i : Nat) (x : Va), l[i]? = some x → x.bd) → bdAll l
  | [], _ => trivial
  | x :: r, h => ⟨h 0 x rfl, bdAll_of r fun i y hy => h (i + 1) y (by simpa using hy)⟩
theorem VAt.bd {w : World} {V : Va} {v : Value} (h : VAt w V v) : V.bd := by
  induction h with
  | mk k n s l ks A c A' c' hk hn hs hl hks hA hA' hcp b o vv h5 hat hkat ih =>
    unfold Va.bd
    refine ⟨hn, hs, bdAll_of l ih, fun i q hq => ?_⟩
    obtain ⟨_, _, _, _, h⟩ := hkat i q hq
    exact h
theorem fits_cases {k n : Int} {s : ByteArray} {l l' : Nat} {inc : Bool} (h : fitsB k n s l l' inc = true) :
    (k = 1 ∧ s = ⟨#[]⟩ ∧ l = 0 ∧ l' = 0) ∨ (k = 2 ∧ n = 0 ∧ l = 0 ∧ l' = 0) ∨ (k = 3 ∧ n = 0 ∧ s = ⟨#[]⟩ ∧ l' = 0) ∨ (k = 4 ∧ n = 0 ∧ s = ⟨#[]⟩ ∧ l' = l ∧ inc = true) := by
  have e : ∀ s : ByteArray, s.toList.isEmpty = true → s = ⟨#[]⟩ := fun s h => by
    rw [ByteArray.toList_eq] at h
    cases s
    simp at h
    simp [h]
  unfold fitsB at h
  split at h
  · rename_i hk
    simp only [Bool.and_eq_true, decide_eq_true_eq] at h
    exact .inl ⟨hk, e s h.1.1, h.1.2, h.2⟩
  split at h
  · rename_i hk
    simp only [Bool.and_eq_true, decide_eq_true_eq] at h
    exact .inr (.inl ⟨hk, h.1.1, h.1.2, h.2⟩)
  split at h
  · rename_i hk
    simp only [Bool.and_eq_true, decide_eq_true_eq] at h
    exact .inr (.inr (.inl ⟨hk, h.1.1, e s h.1.2, h.2⟩))
  split at h
  · rename_i hk
    simp only [Bool.and_eq_true, decide_eq_true_eq] at h
    exact .inr (.inr (.inr ⟨hk, h.1.1.1, e s h.1.1.2, h.1.2, h.2⟩))
  · cases h
/-- an encoding does not begin with 'e', and is not empty -/
theorem enc_head (V : Va) : ∃ b r, V.enc = b :: r ∧ b.toNat ≠ 101 := by
  cases V with
  | mk k n s l ks =>
    simp only [Va.enc]
    split
    · exact ⟨105, _, rfl, by decide⟩
    split
    · cases h : Lib.itoa (s.size : Int) with
      | nil => exact absurd h (itoa_ne _)
      | cons b r =>
        have hb := itoa_nat_mem (n := s.size) (b := b) (by rw [h]; exact List.mem_cons_self)
        exact ⟨b, r ++ 58 :: s.data.toList, by rw [encT, h]; rfl, by omega⟩
    split
    · exact ⟨108, _, rfl, by decide⟩
    · exact ⟨100, _, rfl, by decide⟩

/-! keys -/
theorem incrTo_snoc (ks : List ByteArray) (q : ByteArray) : ∀ k, k < ks.length → incrTo (ks ++ [q]) k = incrTo ks k
  | 0, _ => rfl
  | k + 1, h => by
    simp only [incrTo, incrTo_snoc ks q k (by omega), List.getD_eq_getElem?_getD, List.getElem?_append_left (show k < ks.length by omega), List.getElem?_append_left h]
theorem list_end {α : Type} : ∀ (l : List α), l = [] ∨ ∃ a b, l = a ++ [b]
  | [] => .inl rfl
  | x :: r => .inr (by
    rcases list_end r with rfl | ⟨a, b, rfl⟩
    · exact ⟨[], x, rfl⟩
    · exact ⟨x :: a, b, rfl⟩)
theorem incrB_snoc (ks : List ByteArray) (q : ByteArray) : incrB (ks ++ [q]) = (incrB ks && keyOk ks q) := by
  rcases list_end ks with rfl | ⟨l, p, rfl⟩
  · rfl
  · have e : (l ++ [p] ++ [q]).length - 1 = l.length + 1 := by simp
    unfold incrB
    rw [e, incrTo, incrTo_snoc _ _ _ (by simp)]
    have e2 : (l ++ [p]).length - 1 = l.length := by simp
    rw [e2]
    congr 1
    simp [keyOk, List.getD_eq_getElem?_getD]
theorem incrB_left : ∀ (more ks : List ByteArray), incrB (ks ++ more) = true → incrB ks = true
  | [], ks, h => by simpa using h
  | q :: m, ks, h => by
    have h' : incrB (ks ++ [q] ++ m) = true := by rw [List.append_assoc]; exact h
    have := incrB_left m _ h'
    rw [incrB_snoc, Bool.and_eq_true] at this
    exact this.1

/-! what is read -/
def Back (d : Nat) (v : List UInt8 → Option (Va × List UInt8)) : Prop := ∀ bs x q, v bs = some (x, q) → x.wf = true ∧ x.dep ≤ d ∧ bs = x.enc ++ q
theorem elemsP_back {d : Nat} {v : List UInt8 → Option (Va × List UInt8)} (hv : Back d v) : ∀ (f : Nat) (bs : List UInt8) (acc l : List Va) (q : List UInt8), elemsP v f bs acc = some (l, q) →
    ∃ l', l = acc ++ l' ∧ wfAll l' = true ∧ depAll l' ≤ d ∧ bs = encL l' ++ 101 :: q
  | 0, _, _, _, _, h => by simp [elemsP] at h
  | _ + 1, [], _, _, _, h => by simp [elemsP] at h
  | f + 1, b :: r, acc, l, q, h => by
    simp only [elemsP] at h
    split at h
    · rename_i hb
      injection h with h
      injection h with h1 h2
      subst h1 h2
      refine ⟨[], by simp, rfl, Nat.zero_le _, ?_⟩
      have : b = 101 := UInt8.toNat_inj.1 hb
      rw [this]
      rfl
    · cases hq : v (b :: r) with
      | none => rw [hq] at h; cases h
      | some p =>
        obtain ⟨x, q'⟩ := p
        rw [hq] at h
        obtain ⟨h1, h2, h3⟩ := hv _ _ _ hq
        obtain ⟨l', e, h4, h5, h6⟩ := elemsP_back hv f q' _ _ _ h
        refine ⟨x :: l', by rw [e, List.append_assoc]; rfl, by simp [wfAll, h1, h4], by simp only [depAll]; omega, ?_⟩
        rw [h3, h6, encL, List.append_assoc]
theorem pairsP_back {d : Nat} {v : List UInt8 → Option (Va × List UInt8)} (hv : Back d v) : ∀ (f : Nat) (bs : List UInt8) (acc l : List Va) (ks m : List ByteArray) (q : List UInt8), pairsP v f bs acc ks = some ((l, m), q) →
    ∃ l' m', l = acc ++ l' ∧ m = ks ++ m' ∧ l'.length = m'.length ∧ wfAll l' = true ∧ depAll l' ≤ d ∧ (incrB ks = true → incrB m = true) ∧ bs = encD l' m' ++ 101 :: q
  | 0, _, _, _, _, _, _, h => by simp [pairsP] at h
  | _ + 1, [], _, _, _, _, _, h => by simp [pairsP] at h
  | f + 1, b :: r, acc, l, ks, m, q, h => by
    simp only [pairsP] at h
    split at h
    · rename_i hb
      injection h with h
      injection h with h1 h2
      injection h1 with h1 h3
      subst h1 h2 h3
      refine ⟨[], [], by simp, by simp, rfl, rfl, Nat.zero_le _, id, ?_⟩
      have : b = 101 := UInt8.toNat_inj.1 hb
      rw [this]
      rfl
    · cases ht : textP (b :: r) with
      | none => rw [ht] at h; cases h
      | some p =>
        obtain ⟨key, q0⟩ := p
        rw [ht] at h
        simp only at h
        split at h
        · rename_i hk
          cases hq : v q0 with
          | none => rw [hq] at h; cases h
          | some p =>
            obtain ⟨x, q'⟩ := p
            rw [hq] at h
            obtain ⟨h1, h2, h3⟩ := hv _ _ _ hq
            obtain ⟨l', m', e1, e2, e3, h4, h5, h6, h7⟩ := pairsP_back hv f q' _ _ _ _ _ h
            refine ⟨x :: l', ⟨key.toArray⟩ :: m', by rw [e1, List.append_assoc]; rfl, by rw [e2, List.append_assoc]; rfl, by simp [e3], by simp [wfAll, h1, h4], by simp only [depAll]; omega,
              fun hi => h6 (by rw [incrB_snoc, hi, hk]; rfl), ?_⟩
            rw [textP_back ht, h3, h7, encD]
            simp [List.append_assoc]
        · cases h
theorem valF_back {d : Nat} (sub : Option (List UInt8 → Option (Va × List UInt8))) (hs : ∀ v, sub = some v → 0 < d ∧ Back (d - 1) v) : Back d (valF sub) := by
  intro bs x q h
  cases bs with
  | nil => simp [valF] at h
  | cons b r =>
    simp only [valF] at h
    split at h
    · rename_i hb
      obtain ⟨⟨n, q'⟩, h1, h2⟩ := Option.map_eq_some_iff.1 h
      injection h2 with h3 h2
      subst h2 h3
      obtain ⟨e, _⟩ := numP_back h1
      have : b = 105 := UInt8.toNat_inj.1 hb
      refine ⟨by simp [Va.wf, wfAll, fitsB, ByteArray.toList_eq], by simp [Va.dep], ?_⟩
      rw [this, e]
      simp [Va.enc]
    split at h
    · rename_i hb
      cases sub with
      | none => cases h
      | some v =>
        obtain ⟨⟨l, q'⟩, h1, h2⟩ := Option.map_eq_some_iff.1 h
        injection h2 with h3 h2
        subst h2 h3
        obtain ⟨hd, hv⟩ := hs v rfl
        obtain ⟨l', e, h4, h5, h6⟩ := elemsP_back hv _ _ _ _ _ h1
        simp only [List.nil_append] at e
        subst e
        have : b = 108 := UInt8.toNat_inj.1 hb
        refine ⟨by simp [Va.wf, h4, fitsB, ByteArray.toList_eq], by simp [Va.dep]; omega, ?_⟩
        rw [this, h6]
        simp [Va.enc]
    split at h
    · rename_i hb
      cases sub with
      | none => cases h
      | some v =>
        obtain ⟨⟨⟨l, m⟩, q'⟩, h1, h2⟩ := Option.map_eq_some_iff.1 h
        injection h2 with h3 h2
        subst h2 h3
        obtain ⟨hd, hv⟩ := hs v rfl
        obtain ⟨l', m', e, e', e3, h4, h5, h7, h6⟩ := pairsP_back hv _ _ _ _ _ _ _ h1
        simp only [List.nil_append] at e e'
        subst e e'
        have : b = 100 := UInt8.toNat_inj.1 hb
        have hi := h7 rfl
        refine ⟨by simp [Va.wf, h4, fitsB, ByteArray.toList_eq, e3, hi], by simp [Va.dep]; omega, ?_⟩
        rw [this, h6]
        simp [Va.enc]
    · obtain ⟨⟨s, q'⟩, h1, h2⟩ := Option.map_eq_some_iff.1 h
      injection h2 with h3 h2
      subst h2 h3
      refine ⟨by simp [Va.wf, wfAll, fitsB], by simp [Va.dep], ?_⟩
      rw [textP_back h1]
      simp [Va.enc]
theorem valP_back : ∀ (d : Nat), Back d (valP d)
  | 0 => valF_back none (fun v h => by cases h)
  | d + 1 => valF_back _ (fun v h => by injection h with h; subst h; exact ⟨by omega, valP_back d⟩)

/-! what is written -/
abbrev Forw (N d : Nat) : Prop := ∀ (V : Va), V.sz ≤ N → V.wf = true → V.bd → V.dep ≤ d → ∀ rest, valP d (V.enc ++ rest) = some (V, rest)
theorem elemsP_forw {d : Nat} : ∀ (l : List Va) (f : Nat) (acc : List Va) (q : List UInt8), (∀ (i : Nat) (x : Va), l[i]? = some x → ∀ rest, valP d (x.enc ++ rest) = some (x, rest)) → l.length < f →
    elemsP (valP d) f (encL l ++ 101 :: q) acc = some (acc ++ l, q)
  | [], f, acc, q, _, hf => by
    obtain ⟨g, rfl⟩ : ∃ g, f = g + 1 := ⟨f - 1, by simp at hf; omega⟩
    simp [encL, elemsP]
  | x :: r, f, acc, q, h, hf => by
    obtain ⟨g, rfl⟩ : ∃ g, f = g + 1 := ⟨f - 1, by simp at hf; omega⟩
    have ih := elemsP_forw r g (acc ++ [x]) q (fun i y hy => h (i + 1) y (by simpa using hy)) (by simp at hf; omega)
    have h0 := h 0 x rfl (encL r ++ 101 :: q)
    obtain ⟨b, t, hb, hne⟩ := enc_head x
    rw [encL, List.append_assoc]
    rw [hb, List.cons_append] at h0 ⊢
    simp only [elemsP, if_neg hne, h0, ih]
    simp [List.append_assoc]
theorem encT_head (s : ByteArray) : ∃ b r, encT s = b :: r ∧ b.toNat ≠ 101 := by
  cases h : Lib.itoa (s.size : Int) with
  | nil => exact absurd h (itoa_ne _)
  | cons b r =>
    have hb := itoa_nat_mem (n := s.size) (b := b) (by rw [h]; exact List.mem_cons_self)
    exact ⟨b, r ++ 58 :: s.data.toList, by rw [encT, h]; rfl, by omega⟩
theorem pairsP_forw {d : Nat} : ∀ (l : List Va) (m : List ByteArray) (f : Nat) (acc : List Va) (ks : List ByteArray) (q : List UInt8), l.length = m.length →
    (∀ (i : Nat) (x : Va), l[i]? = some x → ∀ rest, valP d (x.enc ++ rest) = some (x, rest)) → (∀ (i : Nat) (s : ByteArray), m[i]? = some s → s.size ≤ 140737488351232) → incrB (ks ++ m) = true → l.length < f →
    pairsP (valP d) f (encD l m ++ 101 :: q) acc ks = some ((acc ++ l, ks ++ m), q)
  | [], [], f, acc, ks, q, _, _, _, _, hf => by
    obtain ⟨g, rfl⟩ : ∃ g, f = g + 1 := ⟨f - 1, by simp at hf; omega⟩
    simp [encD, pairsP]
  | [], _ :: _, _, _, _, _, h, _, _, _, _ => by simp at h
  | _ :: _, [], _, _, _, _, h, _, _, _, _ => by simp at h
  | x :: r, s :: m, f, acc, ks, q, hl, h, hm, hi, hf => by
    obtain ⟨g, rfl⟩ : ∃ g, f = g + 1 := ⟨f - 1, by simp at hf; omega⟩
    have hi' : incrB (ks ++ [s] ++ m) = true := by rw [List.append_assoc]; exact hi
    have ih := pairsP_forw r m g (acc ++ [x]) (ks ++ [s]) q (by simpa using hl) (fun i y hy => h (i + 1) y (by simpa using hy)) (fun i y hy => hm (i + 1) y (by simpa using hy)) hi' (by simp at hf; omega)
    have h0 := h 0 x rfl (encD r m ++ 101 :: q)
    have hk := incrB_left _ _ hi'
    rw [incrB_snoc, Bool.and_eq_true] at hk
    have ht := textP_encT s (x.enc ++ (encD r m ++ 101 :: q)) (hm 0 s rfl)
    obtain ⟨b, t, hb, hne⟩ := encT_head s
    rw [encD, List.append_assoc, List.append_assoc]
    rw [hb, List.cons_append] at ht ⊢
    simp only [pairsP, if_neg hne, ht, bytes_eta, hk.2, if_true, h0, ih]
    simp [List.append_assoc]
theorem encL_ge : ∀ (l : List Va), l.length ≤ (encL l).length
  | [] => Nat.le_refl _
  | x :: r => by
    obtain ⟨b, t, hb, _⟩ := enc_head x
    have := encL_ge r
    simp only [encL, hb, List.length_append, List.length_cons]
    omega
theorem encD_ge : ∀ (l : List Va) (m : List ByteArray), l.length = m.length → l.length ≤ (encD l m).length
  | [], _, _ => by simp
  | x :: r, [], h => by simp at h
  | x :: r, q :: m, h => by
    obtain ⟨b, t, hb, _⟩ := enc_head x
    have := encD_ge r m (by simpa using h)
    simp only [encD, hb, List.length_append, List.length_cons]
    omega
theorem depAll_mem {l : List Va} {i : Nat} {x : Va} (hx : l[i]? = some x) : x.dep ≤ depAll l := by
  induction l generalizing i with
  | nil => simp at hx
  | cons y r ih =>
    simp only [depAll]
    cases i with
    | zero => simp at hx; subst hx; omega
    | succ i => have := ih (by simpa using hx); omega
theorem bdAll_mem {l : List Va} (h : bdAll l) {i : Nat} {x : Va} (hx : l[i]? = some x) : x.bd := by
  induction l generalizing i with
  | nil => simp at hx
  | cons y r ih =>
    cases i with
    | zero => simp at hx; subst hx; exact h.1
    | succ i => exact ih h.2 (by simpa using hx)
theorem wfAll_mem' {l : List Va} (h : wfAll l = true) {i : Nat} {x : Va} (hx : l[i]? = some x) : x.wf = true := by
  induction l generalizing i with
  | nil => simp at hx
  | cons y r ih =>
    simp only [wfAll, Bool.and_eq_true] at h
    cases i with
    | zero => simp at hx; subst hx; exact h.1
    | succ i => exact ih h.2 (by simpa using hx)
theorem valP_forw : ∀ (N d : Nat), Forw N d := by
  intro N
  induction N with
  | zero => intro d V hV; have := sz_pos V; omega
  | succ N ih =>
    intro d V hV hwf hbd hdep rest
    cases V with
    | mk k n s l ks =>
      have hwf' := hwf
      unfold Va.wf at hwf
      rw [Bool.and_eq_true] at hwf
      obtain ⟨hfit, hall⟩ := hwf
      unfold Va.bd at hbd
      obtain ⟨hn, hs, hbl, hbk⟩ := hbd
      have valEq : ∃ sub, (d = 0 ∧ sub = none ∨ ∃ e, d = e + 1 ∧ sub = some (valP e)) ∧ valP d = valF sub := by
        cases d with
        | zero => exact ⟨none, .inl ⟨rfl, rfl⟩, rfl⟩
        | succ e => exact ⟨_, .inr ⟨e, rfl, rfl⟩, rfl⟩
      obtain ⟨sub, hsub, hval⟩ := valEq
      rw [hval]
      rcases fits_cases hfit with ⟨rfl, rfl, h1, h2⟩ | ⟨rfl, rfl, h1, h2⟩ | ⟨rfl, rfl, rfl, h2⟩ | ⟨rfl, rfl, rfl, h2, hi⟩
      · obtain rfl := List.length_eq_zero_iff.1 h1
        obtain rfl := List.length_eq_zero_iff.1 h2
        have := numP_itoa 101 n rest hn (fun b hb e => by have := itoa_mem hb; subst e; simp at this)
        simp only [Va.enc, if_true, List.cons_append, List.append_assoc, List.nil_append, valF]
        rw [if_pos (by decide), this]
        rfl
      · obtain rfl := List.length_eq_zero_iff.1 h1
        obtain rfl := List.length_eq_zero_iff.1 h2
        have ht := textP_encT s rest hs
        obtain ⟨b, t, hb, hne⟩ : ∃ b r, encT s = b :: r ∧ (48 ≤ b.toNat ∧ b.toNat ≤ 57) := by
          cases h : Lib.itoa (s.size : Int) with
          | nil => exact absurd h (itoa_ne _)
          | cons b r => exact ⟨b, r ++ 58 :: s.data.toList, by rw [encT, h]; rfl, itoa_nat_mem (n := s.size) (b := b) (by rw [h]; exact List.mem_cons_self)⟩
        simp only [Va.enc]
        rw [if_neg (by decide), if_pos trivial]
        rw [hb, List.cons_append] at ht ⊢
        simp only [valF]
        rw [if_neg (by omega), if_neg (by omega), if_neg (by omega), ht]
        simp only [Option.map_some, bytes_eta]
      · obtain rfl := List.length_eq_zero_iff.1 h2
        simp only [Va.dep] at hdep
        rw [if_neg (by decide)] at hdep
        rcases hsub with ⟨hd, _⟩ | ⟨e, he, hse⟩
        · omega
        subst hse
        have hel : ∀ (i : Nat) (x : Va), l[i]? = some x → ∀ rest, valP e (x.enc ++ rest) = some (x, rest) := fun i x hx =>
          ih e x (sz_mem hV hx) (wfAll_mem' hall hx) (bdAll_mem hbl hx) (by have := depAll_mem hx; omega)
        have := elemsP_forw l ((encL l ++ 101 :: rest).length + 1) [] rest hel (by have := encL_ge l; simp; omega)
        simp only [Va.enc]
        rw [if_neg (by decide), if_neg (by decide), if_pos trivial]
        simp only [List.cons_append, List.append_assoc, List.nil_append, valF]
        rw [if_neg (by decide), if_pos (by decide), this]
        simp
      · simp only [Va.dep] at hdep
        rw [if_neg (by decide)] at hdep
        rcases hsub with ⟨hd, _⟩ | ⟨e, he, hse⟩
        · omega
        subst hse
        have hel : ∀ (i : Nat) (x : Va), l[i]? = some x → ∀ rest, valP e (x.enc ++ rest) = some (x, rest) := fun i x hx =>
          ih e x (sz_mem hV hx) (wfAll_mem' hall hx) (bdAll_mem hbl hx) (by have := depAll_mem hx; omega)
        have := pairsP_forw l ks ((encD l ks ++ 101 :: rest).length + 1) [] [] rest h2.symm hel hbk hi (by have := encD_ge l ks h2.symm; simp; omega)
        simp only [Va.enc]
        rw [if_neg (by decide), if_neg (by decide), if_neg (by decide)]
        simp only [List.cons_append, List.append_assoc, List.nil_append, valF]
        rw [if_neg (by decide), if_neg (by decide), if_pos (by decide), this]
        simp
theorem forw {V : Va} (h1 : V.wf = true) (h2 : V.bd) (h3 : V.dep ≤ 16) (rest : List UInt8) : valP 16 (V.enc ++ rest) = some (V, rest) := valP_forw V.sz 16 V (Nat.le_refl _) h1 h2 h3 rest
end Go.Proofs.YtdmaopfaeigelaaGreatDoor
