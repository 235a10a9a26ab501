/- Contracts over the program of money: Parse. -/
import Derived.Test.YthbdhlcimgiemaaDoorMonText
namespace Go.Proofs.YthbdhlcimgiemaaDoor
set_option linter.unusedSimpArgs false
set_option linter.unusedVariables false
open Go.RowKit

/-- the amount with a text -/
def parseR (s : ByteArray) : Option Int :=
  match Lib.atoiAll (noDot s.data.toList) with
  | .ok n => if Am n ∧ textS n = s then some n else none
  | _ => none
def parseV (s : ByteArray) : Int := (parseR s).getD 0
def parseE (s : ByteArray) : Int := if (parseR s).isSome then 0 else 50
theorem parse_iff (s : ByteArray) (n : Int) : parseR s = some n ↔ Am n ∧ textS n = s := by
  unfold parseR
  constructor
  · intro h
    split at h
    · rename_i m hm
      split at h
      · rename_i hc
        injection h with h
        subst h
        exact hc
      · cases h
    · cases h
  · rintro ⟨h1, h2⟩
    have h3 := atoi_text h1
    rw [show textB n = s.data.toList by rw [← h2]; rfl] at h3
    rw [h3]
    exact if_pos ⟨h1, h2⟩
theorem parseR_none {s : ByteArray} (h : parseR s = none) : parseV s = 0 ∧ parseE s = 50 := by unfold parseV parseE; rw [h]; exact ⟨rfl, rfl⟩
theorem parseR_some {s : ByteArray} {n : Int} (h : parseR s = some n) : parseV s = n ∧ parseE s = 0 := by unfold parseV parseE; rw [h]; exact ⟨rfl, rfl⟩
def ParseIs (s : ByteArray) (w : World) (e : Ending) (w' : World) : Prop := e = .returned (.tuple #[.int .i64 (parseV s), .int .i64 (parseE s)]) ∧ Below w.heap.size w w'
theorem str_ne {a b : ByteArray} (h : a ≠ b) : (!(a.toList == b.toList)) = true := by
  rw [Bool.not_eq_true', beq_eq_false_iff_ne]
  intro e
  rw [Lib.toList_data, Lib.toList_data] at e
  apply h
  apply ByteArray.ext
  exact Array.toList_inj.1 e
set_option maxRecDepth 100000 in
set_option maxHeartbeats 2000000 in
theorem parse_any (s : ByteArray) (w : World) (hs : s.size ≤ 1000000) (hE : Env w) : Calls Tryd.prog 22 #[.string s] w (ParseIs s w) := by
  unfold ParseIs
  have hR := replace_any s w hs hE
  have hsz : (⟨(noDot s.data.toList).toArray⟩ : ByteArray).size ≤ 140737488351232 := by
    have := noDot_len s.data.toList
    have e : s.data.toList.length = s.size := by simp
    show (noDot s.data.toList).toArray.size ≤ _
    simp only [List.size_toArray]
    omega
  have hA := fun w1 (hB : Below w.heap.size w w1) => atoi_any ⟨(noDot s.data.toList).toArray⟩ w1 hsz (hE.along hB)
  have hT := fun w1 (hB : Below w.heap.size w w1) (n : Int) (hn : Am n) => text_any n w1 hn (hE.along hB)
  have HR := hide hR
  have HA := hide hA
  have HT := hide hT
  clear hR hA hT hsz hE
  rcases numEnd_cases (Lib.atoiAll (noDot s.data.toList)) with ⟨v, h⟩ | h | h
  · have HH := hide h
    by_cases hv : Am v
    · by_cases ht : textS v = s
      · have hp := (parse_iff s v).2 ⟨hv, ht⟩
        obtain ⟨e1, e2⟩ := parseR_some hp
        rw [e1, e2]
        clear e1 e2 hp h
        have HTE := hide ht
        clear ht
        go_enter Tryd.func22, Tryd.ntmps22
        go_wp2_with fail
        refine (unhide HR).mono ?_; rintro e w1 ⟨rfl, hb1⟩
        have HB1 := hide hb1
        clear hb1
        go_wp2_with fail
        refine ((unhide HA) _ (unhide HB1)).mono ?_; rintro e w2 ⟨he, hb2⟩
        rw [unhide HH] at he
        subst he
        have HB2 := hide (thenB (unhide HB1) hb2)
        clear hb2
        go_wp2_with fail
        refine ((unhide HT) _ (unhide HB2) v hv).mono ?_; rintro e w3 ⟨rfl, hb3⟩
        have HB3 := hide (thenB (unhide HB2) hb3)
        clear hb3
        rw [unhide HTE]
        go_wp2_with fail
        go_ret2
        exact ⟨rfl, unhide HB3⟩
      · have hp : parseR s = none := by
          cases hc : parseR s with
          | none => rfl
          | some m => exact absurd ((parse_iff s m).1 hc) (fun ⟨h1, h2⟩ => by have h3 := atoi_text h1; rw [show textB m = s.data.toList by rw [← h2]; rfl, h] at h3; injection h3 with h3; subst h3; exact ht h2)
        obtain ⟨e1, e2⟩ := parseR_none hp
        rw [e1, e2]
        clear e1 e2 hp h
        have htn := str_ne ht
        have HTE := hide ht
        have HTN := hide htn
        clear ht htn
        go_enter Tryd.func22, Tryd.ntmps22
        go_wp2_with fail
        refine (unhide HR).mono ?_; rintro e w1 ⟨rfl, hb1⟩
        have HB1 := hide hb1
        clear hb1
        go_wp2_with fail
        refine ((unhide HA) _ (unhide HB1)).mono ?_; rintro e w2 ⟨he, hb2⟩
        rw [unhide HH] at he
        subst he
        have HB2 := hide (thenB (unhide HB1) hb2)
        clear hb2
        go_wp2_with fail
        refine ((unhide HT) _ (unhide HB2) v hv).mono ?_; rintro e w3 ⟨rfl, hb3⟩
        have HB3 := hide (thenB (unhide HB2) hb3)
        clear hb3
        have htn := unhide HTN
        generalize textS v = t at htn
        go_wp2_with fail
        go_ret2
        exact ⟨rfl, unhide HB3⟩
    · have hp : parseR s = none := by
        cases hc : parseR s with
        | none => rfl
        | some m => exact absurd ((parse_iff s m).1 hc) (fun ⟨h1, h2⟩ => by have h3 := atoi_text h1; rw [show textB m = s.data.toList by rw [← h2]; rfl, h] at h3; injection h3 with h3; subst h3; exact hv h1)
      obtain ⟨e1, e2⟩ := parseR_none hp
      rw [e1, e2]
      clear e1 e2 hp h
      go_enter Tryd.func22, Tryd.ntmps22
      go_wp2_with fail
      refine (unhide HR).mono ?_; rintro e w1 ⟨rfl, hb1⟩
      have HB1 := hide hb1
      clear hb1
      go_wp2_with fail
      refine ((unhide HA) _ (unhide HB1)).mono ?_; rintro e w2 ⟨he, hb2⟩
      rw [unhide HH] at he
      subst he
      have HB2 := hide (thenB (unhide HB1) hb2)
      clear hb2
      go_wp2_with fail
      refine (text_no v w2 hv).mono ?_; rintro e w3 ⟨rfl, rfl⟩
      go_wp2_with fail
      go_ret2
      exact ⟨rfl, unhide HB2⟩
  · have HH := hide h
    have hp : parseR s = none := by
      cases hc : parseR s with
      | none => rfl
      | some m => exact absurd ((parse_iff s m).1 hc) (fun ⟨h1, h2⟩ => by have h3 := atoi_text h1; rw [show textB m = s.data.toList by rw [← h2]; rfl, h] at h3; cases h3)
    obtain ⟨e1, e2⟩ := parseR_none hp
    rw [e1, e2]
    clear e1 e2 hp h
    go_enter Tryd.func22, Tryd.ntmps22
    go_wp2_with fail
    refine (unhide HR).mono ?_; rintro e w1 ⟨rfl, hb1⟩
    have HB1 := hide hb1
    clear hb1
    go_wp2_with fail
    refine ((unhide HA) _ (unhide HB1)).mono ?_; rintro e w2 ⟨he, hb2⟩
    rw [unhide HH] at he
    obtain ⟨nn, tt, pp, he⟩ := he
    subst he
    have HB2 := hide (thenB (unhide HB1) hb2)
    clear hb2
    go_wp2_with fail
    go_ret2
    exact ⟨rfl, unhide HB2⟩
  · have HH := hide h
    have hp : parseR s = none := by
      cases hc : parseR s with
      | none => rfl
      | some m => exact absurd ((parse_iff s m).1 hc) (fun ⟨h1, h2⟩ => by have h3 := atoi_text h1; rw [show textB m = s.data.toList by rw [← h2]; rfl, h] at h3; cases h3)
    obtain ⟨e1, e2⟩ := parseR_none hp
    rw [e1, e2]
    clear e1 e2 hp h
    go_enter Tryd.func22, Tryd.ntmps22
    go_wp2_with fail
    refine (unhide HR).mono ?_; rintro e w1 ⟨rfl, hb1⟩
    have HB1 := hide hb1
    clear hb1
    go_wp2_with fail
    refine ((unhide HA) _ (unhide HB1)).mono ?_; rintro e w2 ⟨he, hb2⟩
    rw [unhide HH] at he
    obtain ⟨nn, tt, pp, he⟩ := he
    subst he
    have HB2 := hide (thenB (unhide HB1) hb2)
    clear hb2
    go_wp2_with fail
    go_ret2
    exact ⟨rfl, unhide HB2⟩
theorem textS_size {n : Int} (h : Am n) : (textS n).size ≤ 1000000 := by
  obtain ⟨h1, h2⟩ := h
  have h3 : (Lib.decDigits (n.natAbs / 100)).length ≤ 21 := by
    have := Lib.itoa_length_le ((n.natAbs / 100 : Nat) : Int) (by omega) (by omega)
    rwa [Lib.itoa_nonneg] at this
  show (textB n).toArray.size ≤ _
  unfold textB textU tailU
  split <;> simp only [List.size_toArray, List.length_cons, List.length_append, List.length_nil] <;> omega
end Go.Proofs.YthbdhlcimgiemaaDoor
