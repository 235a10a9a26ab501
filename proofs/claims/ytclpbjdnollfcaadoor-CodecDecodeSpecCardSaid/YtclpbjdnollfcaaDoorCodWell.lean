/- Contracts over the codec's program, each for every value: isWellFormed, depth, Check. -/
import Derived.Test.YtclpbjdnollfcaaDoorCodRead
namespace Go.Proofs.YtclpbjdnollfcaaDoor
set_option linter.unusedSimpArgs false
set_option linter.unusedVariables false
open Go.RowKit

/-- the elements at A -/
def ElsAt (w : World) (A : Option Addr) (l : List Va) : Prop :=
  ∀ i x, l[i]? = some x → ∃ b o k n s A1 m c A2 m' c', A = some ⟨b, o, none⟩ ∧ w.cell? ⟨b, o + i * 5, none⟩ = some (.int .i64 k) ∧ w.cell? ⟨b, o + i * 5 + 1, none⟩ = some (.int .i64 n) ∧
    w.cell? ⟨b, o + i * 5 + 2, none⟩ = some (.string s) ∧ w.cell? ⟨b, o + i * 5 + 3, none⟩ = some (.slice A1 m c) ∧ w.cell? ⟨b, o + i * 5 + 4, none⟩ = some (.slice A2 m' c') ∧ VAt w x (vaV k n s A1 m c A2 m' c')

theorem VAt.open {w : World} {V : Va} {v : Value} (h : VAt w V v) : ∃ k n s l ks A c A' c', V = .mk k n s l ks ∧ v = vaV k n s A l.length c A' ks.length c' ∧ I64 k ∧ I64 n ∧ s.size ≤ 140737488351232 ∧
    l.length ≤ 140737488351232 ∧ ks.length ≤ 140737488351232 ∧ (A = none → c = 0) ∧ (A' = none → c' = 0) ∧ ElsAt w A l ∧ StrsAt w A' ks := by
  cases h with
  | mk k n s l ks A c A' c' hk hn hs hl hks hA hA' b o vv h5 hat hkat =>
    refine ⟨k, n, s, l, ks, A, c, A', c', rfl, rfl, hk, hn, hs, hl, hks, hA, hA', fun i x hx => ?_, hkat⟩
    obtain ⟨hA, x0, x1, x2, x3, x4, he, c0, c1, c2, c3, c4⟩ := h5 i (List.getElem?_eq_some_iff.1 hx).1
    have hv := hat i x hx
    rw [he] at hv
    cases hv
    exact ⟨b, o, _, _, _, _, _, _, _, _, _, hA, c0, c1, c2, c3, c4, by have h := hat i _ hx; rw [he] at h; exact h⟩

theorem ElsAt.row {w : World} {A : Option Addr} {l : List Va} (h : ElsAt w A l) (h0 : 0 < l.length) :
    ∃ b o, A = some ⟨b, o, none⟩ ∧ b < w.heap.size ∧ ∀ i x, l[i]? = some x → ∃ k n s A1 m c A2 m' c', w.cell? ⟨b, o + i * 5, none⟩ = some (.int .i64 k) ∧ w.cell? ⟨b, o + i * 5 + 1, none⟩ = some (.int .i64 n) ∧
      w.cell? ⟨b, o + i * 5 + 2, none⟩ = some (.string s) ∧ w.cell? ⟨b, o + i * 5 + 3, none⟩ = some (.slice A1 m c) ∧ w.cell? ⟨b, o + i * 5 + 4, none⟩ = some (.slice A2 m' c') ∧ VAt w x (vaV k n s A1 m c A2 m' c') := by
  obtain ⟨b, o, _, _, _, _, _, _, _, _, _, rfl, hc, _⟩ := h 0 _ (List.getElem?_eq_getElem h0)
  refine ⟨b, o, rfl, World.block_lt_of_cell? w _ hc, fun i x hx => ?_⟩
  obtain ⟨b', o', k, n, s, A1, m, c, A2, m', c', e, r⟩ := h i x hx
  injection e with e
  injection e with e1 e2
  subst e1 e2
  exact ⟨k, n, s, A1, m, c, A2, m', c', r⟩

mutual
def Va.wf : Va → Bool
  | .mk k n s l ks => fitsB k n s l.length ks.length (incrB ks) && wfAll l
def wfAll : List Va → Bool
  | [] => true
  | x :: r => x.wf && wfAll r
end
theorem wfAll_take {l : List Va} {i : Nat} {x : Va} (h : l[i]? = some x) : wfAll (l.take (i + 1)) = (wfAll (l.take i) && x.wf) := by
  induction l generalizing i with
  | nil => simp at h
  | cons y r ih =>
    cases i with
    | zero => simp at h; subst h; simp [wfAll]
    | succ i => simp only [List.take_succ_cons, wfAll, ih (by simpa using h), Bool.and_assoc]
theorem wfAll_false {l : List Va} {i : Nat} (h : wfAll (l.take i) = false) : wfAll l = false := by
  induction l generalizing i with
  | nil => simp [wfAll] at h
  | cons y r ih =>
    cases i with
    | zero => simp [wfAll] at h
    | succ i =>
      simp only [List.take_succ_cons, wfAll, Bool.and_eq_false_iff] at h ⊢
      exact h.imp id ih
mutual
def Va.sz : Va → Nat
  | .mk _ _ _ l _ => szAll l + 1
def szAll : List Va → Nat
  | [] => 0
  | x :: r => x.sz + szAll r
end
theorem szAll_mem {l : List Va} {i : Nat} {x : Va} (hx : l[i]? = some x) : x.sz ≤ szAll l := by
  induction l generalizing i with
  | nil => simp at hx
  | cons y r ih =>
    simp only [szAll]
    cases i with
    | zero => simp at hx; subst hx; omega
    | succ i => have := ih (by simpa using hx); omega
theorem sz_mem {k n : Int} {s : ByteArray} {l : List Va} {ks : List ByteArray} {N i : Nat} {x : Va} (h : Va.sz (Va.mk k n s l ks) ≤ N + 1) (hx : l[i]? = some x) : x.sz ≤ N := by
  have h1 := szAll_mem hx
  simp only [Va.sz] at h
  omega
theorem sz_pos (V : Va) : 0 < V.sz := by
  cases V
  simp only [Va.sz]
  omega

abbrev WfIs (N : Nat) : Prop := ∀ (V : Va), V.sz ≤ N → ∀ v w, VAt w V v → Calls Tryd.prog 28 #[v] w fun e w' => e = .returned (.bool V.wf) ∧ Below w.heap.size w w'

set_option maxHeartbeats 2000000 in
theorem wf_step (N : Nat) (ih : Hid (WfIs N)) (k n : Int) (s : ByteArray) (l : List Va) (ks : List ByteArray) (A : Option Addr) (c : Nat) (A' : Option Addr) (c' : Nat) (m m' : Nat) (w : World)
    (HN : Hid (Va.sz (Va.mk k n s l ks) ≤ N + 1)) (hm : m ≤ 140737488351232) (hm' : m' ≤ 140737488351232) (HL : Hid (l.length = m)) (HK : Hid (ks.length = m')) (HE : Hid (ElsAt w A l)) (HS : Hid (StrsAt w A' ks)) :
    Calls Tryd.prog 28 #[vaV k n s A m c A' m' c'] w fun e w' => e = .returned (.bool (Va.wf (.mk k n s l ks))) ∧ Below w.heap.size w w' := by
  have HI : Hid (∀ W, Below w.heap.size w W → Calls Tryd.prog 58 #[.slice A' m' c'] W fun e w' => e = .returned (.bool (incrB ks)) ∧ ∃ q, w' = W.drewN q) := fun W hW =>
    (unhide HK) ▸ incr_any A' c' ks W ((unhide HS).below hW) (by rw [unhide HK]; exact hm')
  have hF := fun (W : World) (hW : Below w.heap.size w W) => fits_any k n s A m c A' m' c' (incrB ks) W hm hm' (fun W' hW' => (unhide HI) W' (thenB hW hW'))
  cases hf : fitsB k n s m m' (incrB ks)
  · have hwf : Va.wf (.mk k n s l ks) = false := by simp only [Va.wf, unhide HL, unhide HK, hf, Bool.false_and]
    rw [hwf]
    rw [hf] at hF
    have HF := hide hF; clear hF hf hwf
    go_enter Tryd.func28, Tryd.ntmps28
    go_wp2_with (go_at_call 45; refine ((unhide HF) _ (by go_grown)).mono ?_; rintro e w1 ⟨rfl, hb1⟩)
    go_ret
    exact ⟨rfl, advB (Below.refl _ _) hb1⟩
  · have hwf : Va.wf (.mk k n s l ks) = wfAll l := by simp only [Va.wf, unhide HL, unhide HK, hf, Bool.true_and]
    rw [hwf]
    rw [hf] at hF
    have HF := hide hF; clear hF hf hwf
    by_cases h0 : 0 < m
    · obtain ⟨b, o, rfl, hbw, hr⟩ := (unhide HE).row (by rw [unhide HL]; exact h0)
      have HR := hide hr; clear hr
      go_enter Tryd.func28, Tryd.ntmps28
      go_wp2_with (go_at_call 45; refine ((unhide HF) _ (by go_grown)).mono ?_; rintro e w1 ⟨rfl, hb1⟩; obtain ⟨hc, hf⟩ := oldCells hb1)
      have HB1 : Hid (Below w.heap.size w w1) := advB (Below.refl _ _) hb1
      clear hb1 hc hf
      go_loopw [11] (fun i wr => ∃ j : Nat, j ≤ m ∧ i = .int .i64 j ∧ wfAll (l.take j) = true ∧ Below w.heap.size w wr) (fun i _ => m - (intOf i).toNat)
      case atStart => exact ⟨0, Nat.zero_le _, rfl, rfl, unhide HB1⟩
      case round =>
        obtain ⟨j, hj, rfl, htk, hb⟩ := hrel
        have HT := hide htk; have HB := hide hb; clear htk hb
        by_cases hlt : j < m
        · obtain ⟨x, hx⟩ : ∃ x, l[j]? = some x := ⟨_, List.getElem?_eq_getElem (by rw [unhide HL]; exact hlt)⟩
          obtain ⟨k1, n1, s1, A1, m1, c1, A2, m2, c2, d0, d1, d2, d3, d4, hv⟩ := (unhide HR) j x hx
          rw [← (unhide HB).cell (p := ⟨b, o + j * 5, none⟩) hbw] at d0
          rw [← (unhide HB).cell (p := ⟨b, o + j * 5 + 1, none⟩) hbw] at d1
          rw [← (unhide HB).cell (p := ⟨b, o + j * 5 + 2, none⟩) hbw] at d2
          rw [← (unhide HB).cell (p := ⟨b, o + j * 5 + 3, none⟩) hbw] at d3
          rw [← (unhide HB).cell (p := ⟨b, o + j * 5 + 4, none⟩) hbw] at d4
          have hW := fun (W : World) (hW : Below wr.heap.size wr W) => (unhide ih) x (sz_mem (unhide HN) hx) _ W ((hv.later (unhide HB)).later hW)
          have hst := wfAll_take hx
          rw [unhide HT, Bool.true_and] at hst
          cases hq : x.wf
          · rw [hq] at hW hst
            have HW := hide hW; have HST := hide hst; clear hW hst hq hx hv
            go_wp2_with (go_at_call 28; refine ((unhide HW) _ (by go_grown)).mono ?_; rintro e w2 ⟨rfl, hb2⟩)
            go_ret
            exact ⟨retB (wfAll_false (unhide HST)).symm, advB (unhide HB) hb2⟩
          · rw [hq] at hW hst
            have HW := hide hW; have HST := hide hst; clear hW hst hq hx hv
            go_wp2_with (go_at_call 28; refine ((unhide HW) _ (by go_grown)).mono ?_; rintro e w2 ⟨rfl, hb2⟩)
            go_roundw
            case rel => exact ⟨j + 1, by omega, by go_num, unhide HST, advB (unhide HB) hb2⟩
            case measure => simp [intOf]; omega
        · go_wp2_with fail
          go_ret
          have : l.take j = l := List.take_of_length_le (by rw [unhide HL]; omega)
          exact ⟨retB (this ▸ unhide HT).symm, unhide HB⟩
    · have e0 : l = [] := List.length_eq_zero_iff.1 (by rw [unhide HL]; omega)
      obtain rfl : m = 0 := by omega
      subst e0
      go_enter Tryd.func28, Tryd.ntmps28
      go_wp2_with (go_at_call 45; refine ((unhide HF) _ (by go_grown)).mono ?_; rintro e w1 ⟨rfl, hb1⟩; obtain ⟨hc, hf⟩ := oldCells hb1)
      have HB1 : Hid (Below w.heap.size w w1) := advB (Below.refl _ _) hb1
      clear hb1 hc hf
      go_loopw [11] (fun i wr => i = .int .i64 0 ∧ wr = w1) (fun _ _ => 0)
      case atStart => exact ⟨rfl, rfl⟩
      case round =>
        obtain ⟨rfl, rfl⟩ := hrel
        go_wp2_with fail
        go_ret
        exact ⟨rfl, unhide HB1⟩

theorem wf_all (N : Nat) : WfIs N := by
  induction N with
  | zero => intro V hV; have := sz_pos V; omega
  | succ N ih =>
    intro V hV v w h
    obtain ⟨k, n, s, l, ks, A, c, A', c', rfl, rfl, _, _, _, h1, h2, _, _, hE, hS⟩ := h.open
    exact wf_step N ih k n s l ks A c A' c' l.length ks.length w hV h1 h2 rfl rfl hE hS
theorem wf_any (V : Va) (v : Value) (w : World) (h : VAt w V v) : Calls Tryd.prog 28 #[v] w fun e w' => e = .returned (.bool V.wf) ∧ Below w.heap.size w w' := wf_all V.sz V (Nat.le_refl _) v w h
end Go.Proofs.YtclpbjdnollfcaaDoor
