/- Contracts over the reference of the codec, each for every input: Int, Text, List; the law's few. -/
import Derived.Test.YtclpbjdnollfcaaDoorCodFew
namespace Go.Proofs.YtclpbjdnollfcaaDoor
set_option linter.unusedSimpArgs false
set_option linter.unusedVariables false
open Go.RowKit

theorem mkInt_any (n : Int) (w : World) : Calls Tryd.prog 23 #[.int .i64 n] w fun e w' => e = .returned (vaV 1 n ⟨#[]⟩ none 0 0 none 0 0) ∧ Below w.heap.size w w' := by
  go_enter Tryd.func23, Tryd.ntmps23
  go_wp2_with fail
  exact bodyPost_ret (v := vaV 1 n ⟨#[]⟩ none 0 0 none 0 0) (by simp [results, Tryd.results23, go_sem]) rfl ⟨rfl, by go_grown⟩
theorem mkText_any (s : ByteArray) (w : World) : Calls Tryd.prog 24 #[.string s] w fun e w' => e = .returned (vaV 2 0 s none 0 0 none 0 0) ∧ Below w.heap.size w w' := by
  go_enter Tryd.func24, Tryd.ntmps24
  go_wp2_with fail
  exact bodyPost_ret (v := vaV 2 0 s none 0 0 none 0 0) (by simp [results, Tryd.results24, go_sem]) rfl ⟨rfl, by go_grown⟩
theorem mkList_any (A : Option Addr) (m c : Nat) (w : World) : Calls Tryd.prog 22 #[.slice A m c] w fun e w' => e = .returned (vaV 3 0 ⟨#[]⟩ A m c none 0 0) ∧ Below w.heap.size w w' := by
  go_enter Tryd.func22, Tryd.ntmps22
  go_wp2_with fail
  exact bodyPost_ret (v := vaV 3 0 ⟨#[]⟩ A m c none 0 0) (by simp [results, Tryd.results22, go_sem]) rfl ⟨rfl, by go_grown⟩

theorem VAt.flat {w : World} {k n : Int} {s : ByteArray} (hk : I64 k) (hn : I64 n) (hs : s.size ≤ 140737488351232) : VAt w (.mk k n s [] []) (vaV k n s none 0 0 none 0 0) :=
  .mk k n s [] [] none 0 none 0 hk hn hs (by decide) (by decide) (fun _ => rfl) (fun _ => rfl) 0 0 (fun _ => .bool true) (fun i hi => by simp at hi) (fun i x hx => by simp at hx) (fun i s hs => by simp at hs)

def fewAll (l : List Va) : Bool := l.all fewB
theorem fewAll_take {l : List Va} {i : Nat} {x : Va} (h : l[i]? = some x) : fewAll (l.take (i + 1)) = (fewAll (l.take i) && fewB x) := by
  rw [List.take_add_one, h]
  simp [fewAll]
theorem fewAll_false {l : List Va} {i : Nat} (h : fewAll (l.take i) = false) : fewAll l = false := by
  cases hq : fewAll l
  · rfl
  · unfold fewAll at h hq
    rw [List.all_eq_true] at hq
    rw [List.all_eq_false] at h
    obtain ⟨x, hx, h⟩ := h
    exact absurd (hq x (List.mem_of_mem_take hx)) h

set_option maxHeartbeats 2000000 in
theorem few_rows (b o m c : Nat) (l : List Va) (w : World) (hm : m ≤ 140737488351232) (HL : Hid (l.length = m)) (hbw : b < w.heap.size)
    (HR : Hid (∀ i x, l[i]? = some x → ∃ k n s A1 m c A2 m' c', w.cell? ⟨b, o + i * 5, none⟩ = some (.int .i64 k) ∧ w.cell? ⟨b, o + i * 5 + 1, none⟩ = some (.int .i64 n) ∧
      w.cell? ⟨b, o + i * 5 + 2, none⟩ = some (.string s) ∧ w.cell? ⟨b, o + i * 5 + 3, none⟩ = some (.slice A1 m c) ∧ w.cell? ⟨b, o + i * 5 + 4, none⟩ = some (.slice A2 m' c') ∧ VAt w x (vaV k n s A1 m c A2 m' c'))) :
    Calls Tryd.prog 11 #[.slice (some ⟨b, o, none⟩) m c] w fun e w' => e = .returned (.bool (fewAll l)) ∧ Below w.heap.size w w' := by
  go_enter Tryd.func11, Tryd.ntmps11
  go_wp2_with fail
  go_loopw [7] (fun i wr => ∃ j : Nat, j ≤ m ∧ i = .int .i64 j ∧ fewAll (l.take j) = true ∧ Below w.heap.size w wr) (fun i _ => m - (intOf i).toNat)
  case atStart => exact ⟨0, Nat.zero_le _, rfl, rfl, Below.refl _ _⟩
  case round =>
    obtain ⟨j, hj, rfl, htk, hb⟩ := hrel
    have HT := hide htk; have HB := hide hb; clear htk hb
    by_cases hlt : j < m
    · obtain ⟨x, hx⟩ : ∃ x, l[j]? = some x := ⟨_, List.getElem?_eq_getElem (by rw [unhide HL]; exact hlt)⟩
      obtain ⟨k1, n1, s1, A1, m1, c1, A2, m2, c2, d0, d1, d2, d3, d4, hv⟩ := (unhide HR) j x hx
      rw [← (unhide HB).cell (p := ⟨b, o + j * 5, none⟩) hbw] at d0
      rw [← (unhide HB).cell (p := ⟨b, o + j * 5 + 1, none⟩) hbw] at d1
      rw [← (unhide HB).cell (p := ⟨b, o + j * 5 + 2, none⟩) hbw] at d2
      rw [← (unhide HB).cell (p := ⟨b, o + j * 5 + 3, none⟩) hbw] at d3
      rw [← (unhide HB).cell (p := ⟨b, o + j * 5 + 4, none⟩) hbw] at d4
      have hW := fun (W : World) (hW : Below wr.heap.size wr W) => few_any x _ W ((hv.later (unhide HB)).later hW)
      have hst := fewAll_take hx
      rw [unhide HT, Bool.true_and] at hst
      cases hq : fewB x
      · rw [hq] at hW hst
        have HW := hide hW; have HST := hide hst; clear hW hst hq hx hv
        go_wp2_with (go_at_call 25; refine ((unhide HW) _ (by go_grown)).mono ?_; rintro e w2 ⟨rfl, hb2⟩)
        go_ret
        exact ⟨retB (fewAll_false (unhide HST)).symm, advB (unhide HB) hb2⟩
      · rw [hq] at hW hst
        have HW := hide hW; have HST := hide hst; clear hW hst hq hx hv
        go_wp2_with (go_at_call 25; refine ((unhide HW) _ (by go_grown)).mono ?_; rintro e w2 ⟨rfl, hb2⟩)
        go_roundw
        case rel => exact ⟨j + 1, by omega, by go_num, unhide HST, advB (unhide HB) hb2⟩
        case measure => simp [intOf]; omega
    · have e1 : l.take j = l := List.take_of_length_le (by rw [unhide HL]; omega)
      rw [e1] at HT
      go_wp2_with fail
      go_ret
      exact ⟨retB (unhide HT).symm, unhide HB⟩
theorem few_zero (A : Option Addr) (c : Nat) (w : World) : Calls Tryd.prog 11 #[.slice A 0 c] w fun e w' => e = .returned (.bool true) ∧ w' = w := by
  go_enter Tryd.func11, Tryd.ntmps11
  go_wp2_with fail
  go_loop [7] (fun i => i = .int .i64 0) (fun _ => 0)
  case atStart => rfl
  case round =>
    subst hrel
    go_wp2_with fail
    go_ret
    exact ⟨rfl, rfl⟩
theorem few_list (A : Option Addr) (c : Nat) (l : List Va) (w : World) (h : ElsAt w A l) (hm : l.length ≤ 140737488351232) :
    Calls Tryd.prog 11 #[.slice A l.length c] w fun e w' => e = .returned (.bool (fewAll l)) ∧ Below w.heap.size w w' := by
  by_cases h0 : 0 < l.length
  · obtain ⟨b, o, rfl, hb, hr⟩ := h.row h0
    exact few_rows b o l.length c l w hm rfl hb hr
  · have e0 : l = [] := List.length_eq_zero_iff.1 (by omega)
    subst e0
    refine (few_zero A c w).mono ?_
    rintro e w' ⟨rfl, rfl⟩
    exact ⟨rfl, Below.refl _ _⟩
end Go.Proofs.YtclpbjdnollfcaaDoor
