/- Values of the codec that lie in known blocks; what the reader reads, as pure functions. -/
import Derived.Test.YtclpbjdnollfcaaDoorCodText
namespace Go.Proofs.YtclpbjdnollfcaaDoor
set_option linter.unusedSimpArgs false
set_option linter.unusedVariables false
open Go.RowKit

/-- V lies in w, in blocks of P -/
inductive VIn (w : World) (P : Nat → Prop) : Va → Value → Prop where
  | mk (k n : Int) (s : ByteArray) (l : List Va) (ks : List ByteArray) (A : Option Addr) (c : Nat) (A' : Option Addr) (c' : Nat)
      (hk : I64 k) (hn : I64 n) (hs : s.size ≤ 140737488351232) (hl : l.length ≤ 140737488351232) (hks : ks.length ≤ 140737488351232)
      (hA : A = none → c = 0) (hA' : A' = none → c' = 0)
      (b o : Nat) (vv : Nat → Value) (h5 : ∀ i, i < l.length → A = some ⟨b, o, none⟩ ∧ P b ∧ Five w b (o + i * 5) (vv i))
      (hat : ∀ (i : Nat) (x : Va), l[i]? = some x → VIn w P x (vv i))
      (b' o' : Nat) (hkat : ∀ i s, ks[i]? = some s → A' = some ⟨b', o', none⟩ ∧ P b' ∧ w.cell? ⟨b', o' + i, none⟩ = some (.string s) ∧ s.size ≤ 140737488351232) :
      VIn w P (.mk k n s l ks) (vaV k n s A l.length c A' ks.length c')
theorem VIn.at {w : World} {P : Nat → Prop} {V : Va} {v : Value} (h : VIn w P V v) : VAt w V v := by
  induction h with
  | mk k n s l ks A c A' c' hk hn hs hl hks hA hA' b o vv h5 hat b' o' hkat ih =>
    refine .mk k n s l ks A c A' c' hk hn hs hl hks hA hA' b o vv (fun i hi => ⟨(h5 i hi).1, (h5 i hi).2.2⟩) ih fun i s hs => ?_
    obtain ⟨e, _, hc, hz⟩ := hkat i s hs
    exact ⟨b', o', e, hc, hz⟩
theorem VIn.keep {w w' : World} {P Q : Nat → Prop} {V : Va} {v : Value} (h : VIn w P V v) (hPQ : ∀ b, P b → Q b) (hw : ∀ b, P b → w'.heap[b]? = w.heap[b]?) : VIn w' Q V v := by
  induction h with
  | mk k n s l ks A c A' c' hk hn hs hl hks hA hA' b o vv h5 hat b' o' hkat ih =>
    refine .mk k n s l ks A c A' c' hk hn hs hl hks hA hA' b o vv (fun i hi => ?_) ih b' o' fun i s hs => ?_
    · obtain ⟨e, hp, x0, x1, x2, x3, x4, ev, c0, c1, c2, c3, c4⟩ := h5 i hi
      have hb : ∀ j, w'.cell? ⟨b, j, none⟩ = w.cell? ⟨b, j, none⟩ := fun j => World.cell?_of_block (hw b hp)
      exact ⟨e, hPQ b hp, x0, x1, x2, x3, x4, ev, (hb _).trans c0, (hb _).trans c1, (hb _).trans c2, (hb _).trans c3, (hb _).trans c4⟩
    · obtain ⟨e, hp, hc, hz⟩ := hkat i s hs
      exact ⟨e, hPQ b' hp, (World.cell?_of_block (a := ⟨b', o' + i, none⟩) (hw b' hp)).trans hc, hz⟩
theorem VIn.form {w : World} {P : Nat → Prop} {V : Va} {v : Value} (h : VIn w P V v) : ∃ k n s A m c A' m' c', v = vaV k n s A m c A' m' c' := by
  cases h
  exact ⟨_, _, _, _, _, _, _, _, _, rfl⟩
/-- made by the call: in blocks that were not there in w -/
def VNew (w : World) (V : Va) (v : Value) (w' : World) : Prop := VIn w' (fun b => w.heap.size ≤ b ∧ b < w'.heap.size) V v
theorem VIn.flat {w : World} {P : Nat → Prop} {k n : Int} {s : ByteArray} (hk : I64 k) (hn : I64 n) (hs : s.size ≤ 140737488351232) : VIn w P (.mk k n s [] []) (vaV k n s none 0 0 none 0 0) :=
  .mk k n s [] [] none 0 none 0 hk hn hs (by decide) (by decide) (fun _ => rfl) (fun _ => rfl) 0 0 (fun _ => zeroV') (fun i hi => by simp at hi) (fun i x hx => by simp at hx) 0 0 (fun i s hs => by simp at hs)
where zeroV' : Value := vaV 0 0 ⟨#[]⟩ none 0 0 none 0 0

/-! what is read -/
def elemsP (v : List UInt8 → Option (Va × List UInt8)) : Nat → List UInt8 → List Va → Option (List Va × List UInt8)
  | 0, _, _ => none
  | _ + 1, [], _ => none
  | f + 1, b :: r, acc => if b.toNat = 101 then some (acc, r) else match v (b :: r) with
    | none => none
    | some (x, q) => elemsP v f q (acc ++ [x])
/-- may the key stand behind these -/
def keyOk (ks : List ByteArray) (q : ByteArray) : Bool := match ks.getLast? with
  | none => true
  | some p => ltB p q
def pairsP (v : List UInt8 → Option (Va × List UInt8)) : Nat → List UInt8 → List Va → List ByteArray → Option ((List Va × List ByteArray) × List UInt8)
  | 0, _, _, _ => none
  | _ + 1, [], _, _ => none
  | f + 1, b :: r, acc, ks => if b.toNat = 101 then some ((acc, ks), r) else match textP (b :: r) with
    | none => none
    | some (key, q) => if keyOk ks ⟨key.toArray⟩ then match v q with
        | none => none
        | some (x, q') => pairsP v f q' (acc ++ [x]) (ks ++ [⟨key.toArray⟩])
      else none
/-- a value, its first byte at hand; sub: what the elements are read by, if they may be -/
def valF (sub : Option (List UInt8 → Option (Va × List UInt8))) : List UInt8 → Option (Va × List UInt8)
  | [] => none
  | b :: r =>
    if b.toNat = 105 then (numP 101 r).map fun p => (.mk 1 p.1 ⟨#[]⟩ [] [], p.2)
    else if b.toNat = 108 then match sub with
      | none => none
      | some v => (elemsP v (r.length + 1) r []).map fun p => (.mk 3 0 ⟨#[]⟩ p.1 [], p.2)
    else if b.toNat = 100 then match sub with
      | none => none
      | some v => (pairsP v (r.length + 1) r [] []).map fun p => (.mk 4 0 ⟨#[]⟩ p.1.1 p.1.2, p.2)
    else (textP (b :: r)).map fun p => (.mk 2 0 ⟨p.1.toArray⟩ [] [], p.2)
def valP : Nat → List UInt8 → Option (Va × List UInt8)
  | 0 => valF none
  | d + 1 => valF (some (valP d))

theorem numP_len {stop : UInt8} {bs : List UInt8} {n : Int} {q : List UInt8} (h : numP stop bs = some (n, q)) : q.length < bs.length ∧ I64 n := by
  unfold numP at h
  split at h
  · cases h
  · rename_i hi
    have hr := index_range bs stop
    split at h
    · rename_i v hv
      split at h
      · injection h with h
        injection h with h1 h2
        subst h1 h2
        refine ⟨?_, atoi_range hv⟩
        rw [List.length_drop]
        omega
      · cases h
    · cases h
theorem textP_len {bs s q : List UInt8} (h : textP bs = some (s, q)) : q.length < bs.length ∧ s.length ≤ bs.length := by
  unfold textP at h
  cases hn : numP 58 bs with
  | none => rw [hn] at h; cases h
  | some p =>
    obtain ⟨n, r⟩ := p
    rw [hn] at h
    have := (numP_len hn).1
    simp only at h
    split at h
    · injection h with h
      injection h with h1 h2
      subst h1 h2
      rw [List.length_drop, List.length_take]
      omega
    · cases h
theorem elemsP_len {v : List UInt8 → Option (Va × List UInt8)} (hv : ∀ bs x q, v bs = some (x, q) → q.length < bs.length) : ∀ (f : Nat) (bs : List UInt8) (acc l : List Va) (q : List UInt8), elemsP v f bs acc = some (l, q) → q.length < bs.length
  | 0, _, _, _, _, h => by simp [elemsP] at h
  | _ + 1, [], _, _, _, h => by simp [elemsP] at h
  | f + 1, b :: r, acc, l, q, h => by
    simp only [elemsP] at h
    split at h
    · injection h with h
      injection h with h1 h2
      subst h2
      simp
    · cases hq : v (b :: r) with
      | none => rw [hq] at h; cases h
      | some p =>
        obtain ⟨x, q'⟩ := p
        rw [hq] at h
        have h1 := hv _ _ _ hq
        have h2 := elemsP_len hv f q' _ _ _ h
        omega
theorem pairsP_len {v : List UInt8 → Option (Va × List UInt8)} (hv : ∀ bs x q, v bs = some (x, q) → q.length < bs.length) : ∀ (f : Nat) (bs : List UInt8) (acc : List Va) (ks : List ByteArray) (l) (q : List UInt8), pairsP v f bs acc ks = some (l, q) → q.length < bs.length
  | 0, _, _, _, _, _, h => by simp [pairsP] at h
  | _ + 1, [], _, _, _, _, h => by simp [pairsP] at h
  | f + 1, b :: r, acc, ks, l, q, h => by
    simp only [pairsP] at h
    split at h
    · injection h with h
      injection h with h1 h2
      subst h2
      simp
    · cases ht : textP (b :: r) with
      | none => rw [ht] at h; cases h
      | some p =>
        obtain ⟨key, q0⟩ := p
        rw [ht] at h
        simp only at h
        split at h
        · cases hq : v q0 with
          | none => rw [hq] at h; cases h
          | some p =>
            obtain ⟨x, q'⟩ := p
            rw [hq] at h
            have h0 := (textP_len ht).1
            have h1 := hv _ _ _ hq
            have h2 := pairsP_len hv f q' _ _ _ _ h
            omega
        · cases h
theorem valP_len : ∀ (d : Nat) (bs : List UInt8) (x : Va) (q : List UInt8), valP d bs = some (x, q) → q.length < bs.length := by
  have step : ∀ (sub : Option (List UInt8 → Option (Va × List UInt8))), (∀ v, sub = some v → ∀ bs x q, v bs = some (x, q) → q.length < bs.length) → ∀ (bs : List UInt8) (x : Va) (q : List UInt8), valF sub bs = some (x, q) → q.length < bs.length := by
    intro sub hsub bs x q h
    cases bs with
    | nil => simp [valF] at h
    | cons b r =>
      simp only [valF] at h
      split at h
      · obtain ⟨⟨n, q'⟩, h1, h2⟩ := Option.map_eq_some_iff.1 h
        injection h2 with _ h2
        subst h2
        have := (numP_len h1).1
        simp; omega
      split at h
      · cases sub with
        | none => cases h
        | some v =>
          obtain ⟨⟨l, q'⟩, h1, h2⟩ := Option.map_eq_some_iff.1 h
          injection h2 with _ h2
          subst h2
          have := elemsP_len (hsub v rfl) _ _ _ _ _ h1
          simp; omega
      split at h
      · cases sub with
        | none => cases h
        | some v =>
          obtain ⟨⟨l, q'⟩, h1, h2⟩ := Option.map_eq_some_iff.1 h
          injection h2 with _ h2
          subst h2
          have := pairsP_len (hsub v rfl) _ _ _ _ _ _ h1
          simp; omega
      · obtain ⟨⟨l, q'⟩, h1, h2⟩ := Option.map_eq_some_iff.1 h
        injection h2 with _ h2
        subst h2
        have := (textP_len h1).1
        simpa using this
  intro d
  induction d with
  | zero => exact step none (fun v h => by cases h)
  | succ d ih => exact step (some (valP d)) (fun v h => by injection h with h; subst h; exact ih)
end Go.Proofs.YtclpbjdnollfcaaDoor
