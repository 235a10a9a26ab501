/- Contracts over the codec's program, each for every value: Same. -/
import Derived.Test.YtclpbjdnollfcaaDoorCodDepth
import Derived.Test.YtclpbjdnollfcaaDoorCodShelf
namespace Go.Proofs.YtclpbjdnollfcaaDoor
set_option linter.unusedSimpArgs false
set_option linter.unusedVariables false
open Go.RowKit

mutual
def Va.same : Va → Va → Bool
  | .mk k n s l ks, .mk k' n' s' l' ks' => decide (k = k') && decide (n = n') && decide (s = s') && decide (ks = ks') && sameL l l'
def sameL : List Va → List Va → Bool
  | [], [] => true
  | x :: r, y :: q => x.same y && sameL r q
  | [], _ :: _ => false
  | _ :: _, [] => false
end
mutual
theorem same_iff : (V V' : Va) → (V.same V' = true ↔ V = V')
  | .mk k n s l ks, .mk k' n' s' l' ks' => by
    have h := sameL_iff l l'
    simp only [Va.same, Bool.and_eq_true, decide_eq_true_eq, h, Va.mk.injEq]
    constructor
    · rintro ⟨⟨⟨⟨a, b⟩, c⟩, d⟩, e⟩
      exact ⟨a, b, c, e, d⟩
    · rintro ⟨a, b, c, e, d⟩
      exact ⟨⟨⟨⟨a, b⟩, c⟩, d⟩, e⟩
theorem sameL_iff : (l l' : List Va) → (sameL l l' = true ↔ l = l')
  | [], [] => by simp [sameL]
  | x :: r, y :: q => by simp only [sameL, Bool.and_eq_true, same_iff x y, sameL_iff r q, List.cons.injEq]
  | [], _ :: _ => by simp [sameL]
  | _ :: _, [] => by simp [sameL]
end
theorem sameL_len {l l' : List Va} (h : l.length ≠ l'.length) : sameL l l' = false := by
  cases hq : sameL l l'
  · rfl
  · exact absurd (congrArg List.length ((sameL_iff _ _).1 hq)) h

theorem strs_eq (A A' : Option Addr) (c c' : Nat) (ks ks' : List ByteArray) (w : World) (h : StrsAt w A ks) (h' : StrsAt w A' ks') (hn : ks.length ≤ 140737488351232) (hn' : ks'.length ≤ 140737488351232) :
    Calls Tryd.prog 36 #[.slice A ks.length c, .slice A' ks'.length c'] w fun e w' => e = .returned (.bool (decide (ks = ks'))) ∧ ∃ q, w' = w.drewN q := by
  by_cases hl : ks.length = ks'.length
  · by_cases h0 : 0 < ks.length
    · obtain ⟨b, o, rfl, _, hr⟩ := h.row h0
      obtain ⟨b', o', rfl, _, hr'⟩ := h'.row (by omega)
      refine (Tryd.slices_Equal_string b o ks.length c b' o' ks'.length c' ks ks' w (Nat.le_refl _) (Nat.le_refl _) (by omega) (by omega) (fun j hj => ?_) (fun j hj => ?_)).mono ?_
      · rw [List.getD_eq_getElem?_getD, List.getElem?_eq_getElem hj]
        exact hr j _ (List.getElem?_eq_getElem hj)
      · rw [List.getD_eq_getElem?_getD, List.getElem?_eq_getElem hj]
        exact hr' j _ (List.getElem?_eq_getElem hj)
      rintro e w' ⟨rfl, q, rfl⟩
      exact ⟨by rw [List.take_length, List.take_length], q, rfl⟩
    · have e0 : ks = [] := List.length_eq_zero_iff.1 (by omega)
      have e1 : ks' = [] := List.length_eq_zero_iff.1 (by omega)
      subst e0 e1
      refine (Tryd.slices_Equal_string_empty A A' c 0 c' w (by decide)).mono ?_
      rintro e w' ⟨rfl, rfl⟩
      exact ⟨by simp, 0, rfl⟩
  · refine (Tryd.slices_Equal_string_lens A A' ks.length c ks'.length c' w hl).mono ?_
    rintro e w' ⟨rfl, rfl⟩
    refine ⟨retB ?_, 0, rfl⟩
    symm
    rw [decide_eq_false_iff_not]
    exact fun e => hl (congrArg List.length e)

theorem sameL_take {l l' : List Va} {i : Nat} {x y : Va} (h : l[i]? = some x) (h' : l'[i]? = some y) (hp : sameL (l.take i) (l'.take i) = true) : sameL (l.take (i + 1)) (l'.take (i + 1)) = x.same y := by
  have e := (sameL_iff _ _).1 hp
  cases hq : x.same y
  · cases hr : sameL (l.take (i + 1)) (l'.take (i + 1))
    · rfl
    · have e2 := (sameL_iff _ _).1 hr
      rw [List.take_add_one, List.take_add_one, h, h', e] at e2
      have e3 : x = y := by simpa using e2
      rw [(same_iff x y).2 e3] at hq
      cases hq
  · rw [sameL_iff, List.take_add_one, List.take_add_one, h, h', e, (same_iff x y).1 hq]
theorem sameL_not {l l' : List Va} {i : Nat} (h : sameL (l.take i) (l'.take i) = false) : sameL l l' = false := by
  cases hq : sameL l l'
  · rfl
  · rw [(sameL_iff _ _).1 hq, (sameL_iff (l'.take i) (l'.take i)).2 rfl] at h
    cases h

abbrev SameIs (N : Nat) : Prop := ∀ (V V' : Va), V.sz ≤ N → ∀ v v' w, VAt w V v → VAt w V' v' → Calls Tryd.prog 21 #[v, v'] w fun e w' => e = .returned (.bool (V.same V')) ∧ Below w.heap.size w w'

set_option maxHeartbeats 2000000 in
theorem eqf_rows (N : Nat) (ih : Hid (SameIs N)) (b o b' o' m c c' : Nat) (l l' : List Va) (w : World) (h0 : 0 < m) (hm : m ≤ 140737488351232) (HN : Hid (szAll l ≤ N)) (HL : Hid (l.length = m)) (HL' : Hid (l'.length = m))
    (HE : Hid (ElsAt w (some ⟨b, o, none⟩) l)) (HE' : Hid (ElsAt w (some ⟨b', o', none⟩) l')) :
    Calls Tryd.prog 37 #[.slice (some ⟨b, o, none⟩) m c, .slice (some ⟨b', o', none⟩) m c', .func (.func 21) #[] #[]] w
      fun e w' => e = .returned (.bool (sameL l l')) ∧ Below w.heap.size w w' := by
  obtain ⟨b1, o1, e1, hbw, hr⟩ := (unhide HE).row (by rw [unhide HL]; exact h0)
  injection e1 with e1
  injection e1 with e1 e2
  subst e1 e2
  obtain ⟨b1, o1, e1, hbw', hr'⟩ := (unhide HE').row (by rw [unhide HL']; exact h0)
  injection e1 with e1
  injection e1 with e1 e2
  subst e1 e2
  have HR := hide hr; have HR' := hide hr'
  clear hr hr'
  go_enter Tryd.func37, Tryd.ntmps37
  go_wp2_with fail
  go_loopw [17] (fun i wr => ∃ j : Nat, j ≤ m ∧ i = .int .i64 j ∧ sameL (l.take j) (l'.take j) = true ∧ Below w.heap.size w wr) (fun i _ => m - (intOf i).toNat)
  case atStart => exact ⟨0, Nat.zero_le _, rfl, rfl, Below.refl _ _⟩
  case round =>
    obtain ⟨j, hj, rfl, htk, hb⟩ := hrel
    have HT := hide htk; have HB := hide hb; clear htk hb
    by_cases hlt : j < m
    · obtain ⟨x, hx⟩ : ∃ x, l[j]? = some x := ⟨_, List.getElem?_eq_getElem (by rw [unhide HL]; exact hlt)⟩
      obtain ⟨y, hy⟩ : ∃ x, l'[j]? = some x := ⟨_, List.getElem?_eq_getElem (by rw [unhide HL']; exact hlt)⟩
      obtain ⟨k1, n1, s1, A1, m1, c1, A2, m2, c2, d0, d1, d2, d3, d4, hv⟩ := (unhide HR) j x hx
      rw [← (unhide HB).cell (p := ⟨b, o + j * 5, none⟩) hbw] at d0
      rw [← (unhide HB).cell (p := ⟨b, o + j * 5 + 1, none⟩) hbw] at d1
      rw [← (unhide HB).cell (p := ⟨b, o + j * 5 + 2, none⟩) hbw] at d2
      rw [← (unhide HB).cell (p := ⟨b, o + j * 5 + 3, none⟩) hbw] at d3
      rw [← (unhide HB).cell (p := ⟨b, o + j * 5 + 4, none⟩) hbw] at d4
      obtain ⟨k3, n3, s3, A3, m3, c3, A4, m4, c4, f0, f1, f2, f3, f4, hv'⟩ := (unhide HR') j y hy
      rw [← (unhide HB).cell (p := ⟨b', o' + j * 5, none⟩) hbw'] at f0
      rw [← (unhide HB).cell (p := ⟨b', o' + j * 5 + 1, none⟩) hbw'] at f1
      rw [← (unhide HB).cell (p := ⟨b', o' + j * 5 + 2, none⟩) hbw'] at f2
      rw [← (unhide HB).cell (p := ⟨b', o' + j * 5 + 3, none⟩) hbw'] at f3
      rw [← (unhide HB).cell (p := ⟨b', o' + j * 5 + 4, none⟩) hbw'] at f4
      have hW := fun (W : World) (hW : Below wr.heap.size wr W) => (unhide ih) x y (Nat.le_trans (szAll_mem hx) (unhide HN)) _ _ W ((hv.later (unhide HB)).later hW) ((hv'.later (unhide HB)).later hW)
      have hst := sameL_take hx hy (unhide HT)
      have hbr' : b' < wr.heap.size := Nat.lt_of_lt_of_le hbw' (unhide HB).size
      have hbr : b < wr.heap.size := Nat.lt_of_lt_of_le hbw (unhide HB).size
      cases hq : x.same y
      · rw [hq] at hW hst
        have HW := hide hW; have HST := hide hst; clear hW hst hq hx hv hy hv'
        go_wp2_with fail
        refine ((unhide HW) _ (by go_grown)).mono ?_; rintro e w2 ⟨rfl, hb2⟩
        have HB2 := hide ((unhide HB).trans (((show Below wr.heap.size wr ((wr.alloc _).alloc _) from by go_grown).trans (hb2.mono (by simp; omega))).mono (unhide HB).size)); clear hb2
        go_wp2_with fail
        go_ret
        exact ⟨retB (sameL_not (unhide HST)).symm, unhide HB2⟩
      · rw [hq] at hW hst
        have HW := hide hW; have HST := hide hst; clear hW hst hq hx hv hy hv'
        go_wp2_with fail
        refine ((unhide HW) _ (by go_grown)).mono ?_; rintro e w2 ⟨rfl, hb2⟩
        have HB2 := hide ((unhide HB).trans (((show Below wr.heap.size wr ((wr.alloc _).alloc _) from by go_grown).trans (hb2.mono (by simp; omega))).mono (unhide HB).size)); clear hb2
        go_wp2_with fail
        go_roundw
        case rel => exact ⟨j + 1, by omega, by go_num, unhide HST, unhide HB2⟩
        case measure => simp [intOf]; omega
    · have e1 : l.take j = l := List.take_of_length_le (by rw [unhide HL]; omega)
      have e2 : l'.take j = l' := List.take_of_length_le (by rw [unhide HL']; omega)
      rw [e1, e2] at HT
      clear e1 e2
      go_wp2_with fail
      go_ret
      exact ⟨retB (unhide HT).symm, unhide HB⟩

theorem eqf_lens (A A' : Option Addr) (m m' c c' : Nat) (fv : Value) (w : World) (hm : m ≤ 140737488351232) (hm' : m' ≤ 140737488351232) (h : m ≠ m') :
    Calls Tryd.prog 37 #[.slice A m c, .slice A' m' c', fv] w fun e w' => e = .returned (.bool false) ∧ w' = w := by
  have hb : ((m : Int) != (m' : Int)) = true := by simp; omega
  go_enter Tryd.func37, Tryd.ntmps37
  go_wp2_with fail
  go_ret
  exact ⟨rfl, rfl⟩
theorem eqf_zero (A A' : Option Addr) (c c' : Nat) (fv : Value) (w : World) :
    Calls Tryd.prog 37 #[.slice A 0 c, .slice A' 0 c', fv] w fun e w' => e = .returned (.bool true) ∧ w' = w := by
  go_enter Tryd.func37, Tryd.ntmps37
  go_wp2_with fail
  go_loop [17] (fun i => i = .int .i64 0) (fun _ => 0)
  case atStart => rfl
  case round =>
    subst hrel
    go_wp2_with fail
    go_ret
    exact ⟨rfl, rfl⟩
end Go.Proofs.YtclpbjdnollfcaaDoor
