/- Contracts over the codec's program, each for every value: Same. -/
import Derived.Test.YtclpbjdnollfcaaDoorCodSame
namespace Go.Proofs.YtclpbjdnollfcaaDoor
set_option linter.unusedSimpArgs false
set_option linter.unusedVariables false
open Go.RowKit

theorem eqf_any (N : Nat) (ih : Hid (SameIs N)) (A A' : Option Addr) (c c' : Nat) (l l' : List Va) (w : World) (hm : l.length ≤ 140737488351232) (hm' : l'.length ≤ 140737488351232) (HN : Hid (szAll l ≤ N)) (HE : Hid (ElsAt w A l)) (HE' : Hid (ElsAt w A' l')) :
    Calls Tryd.prog 37 #[.slice A l.length c, .slice A' l'.length c', .func (.func 21) #[] #[]] w
      fun e w' => e = .returned (.bool (sameL l l')) ∧ Below w.heap.size w w' := by
  by_cases hl : l.length = l'.length
  · by_cases h0 : 0 < l.length
    · obtain ⟨b, o, rfl, _⟩ := (unhide HE).row h0
      obtain ⟨b', o', rfl, _⟩ := (unhide HE').row (by omega)
      rw [← hl]
      exact eqf_rows N ih b o b' o' l.length c c' l l' w h0 hm HN rfl hl.symm HE HE'
    · have e0 : l = [] := List.length_eq_zero_iff.1 (by omega)
      have e1 : l' = [] := List.length_eq_zero_iff.1 (by omega)
      subst e0 e1
      refine (eqf_zero A A' c c' _ w).mono ?_
      rintro e w' ⟨rfl, rfl⟩
      exact ⟨by simp [sameL], Below.refl _ _⟩
  · refine (eqf_lens A A' _ _ c c' _ w hm hm' hl).mono ?_
    rintro e w' ⟨rfl, rfl⟩
    exact ⟨by rw [sameL_len hl], Below.refl _ _⟩

theorem ElsAt.later {w w' : World} {A : Option Addr} {l : List Va} (h : ElsAt w A l) (hb : Below w.heap.size w w') : ElsAt w' A l := by
  intro i x hx
  obtain ⟨b, o, k, n, s, A1, m, c, A2, m', c', e, c0, c1, c2, c3, c4, hv⟩ := h i x hx
  have kk : ∀ {p v}, w.cell? p = some v → w'.cell? p = some v := fun {p v} h => (hb.cell (World.block_lt_of_cell? w p h)).trans h
  exact ⟨b, o, k, n, s, A1, m, c, A2, m', c', e, kk c0, kk c1, kk c2, kk c3, kk c4, hv.later hb⟩

theorem toList_inj {s t : ByteArray} (h : s.toList = t.toList) : s = t := by
  rw [ByteArray.toList_eq, ByteArray.toList_eq] at h
  cases s; cases t
  simp at h
  simp [h]

set_option maxHeartbeats 4000000 in
theorem same_step (k n : Int) (s : ByteArray) (A : Option Addr) (m c : Nat) (A' : Option Addr) (m' c' : Nat) (k2 n2 : Int) (s2 : ByteArray) (B : Option Addr) (p d : Nat) (B' : Option Addr) (p' d' : Nat) (w : World) (eqk eql : Bool)
    (HK : Hid (∀ W, Below w.heap.size w W → Calls Tryd.prog 36 #[.slice A' m' c', .slice B' p' d'] W fun e w' => e = .returned (.bool eqk) ∧ ∃ q, w' = W.drewN q))
    (HE : Hid (∀ W, Below w.heap.size w W → Calls Tryd.prog 37 #[.slice A m c, .slice B p d, .func (.func 21) #[] #[]] W fun e w' => e = .returned (.bool eql) ∧ Below W.heap.size W w')) :
    Calls Tryd.prog 21 #[vaV k n s A m c A' m' c', vaV k2 n2 s2 B p d B' p' d'] w fun e w' => e = .returned (.bool (decide (k = k2) && decide (n = n2) && decide (s = s2) && eqk && eql)) ∧ Below w.heap.size w w' := by
  by_cases h1 : k = k2
  · subst h1
    by_cases h2 : n = n2
    · subst h2
      by_cases h3 : s = s2
      · subst h3
        cases eqk
        · go_enter Tryd.func21, Tryd.ntmps21
          go_wp2_with fail
          refine ((unhide HK) _ (by go_grown)).mono ?_; rintro e w1 ⟨rfl, q, rfl⟩
          go_wp2_with fail
          go_ret
          exact ⟨retB (by simp), belowDrewN _ (((Below.refl _ _).alloc (Nat.le_refl _) _).alloc (by simp) _)⟩
        · go_enter Tryd.func21, Tryd.ntmps21
          go_wp2_with fail
          refine ((unhide HK) _ (by go_grown)).mono ?_; rintro e w1 ⟨rfl, q, rfl⟩
          go_wp2_with fail
          refine ((unhide HE) _ (belowDrewN _ (((Below.refl _ _).alloc (Nat.le_refl _) _).alloc (by simp) _))).mono ?_; rintro e w2 ⟨rfl, hb2⟩
          have HB := hide ((belowDrewN q (((Below.refl w.heap.size w).alloc (Nat.le_refl _) _).alloc (by simp) _)).trans (hb2.mono (by simp; omega)))
          clear hb2
          go_wp2_with fail
          go_ret
          exact ⟨retB (by simp), unhide HB⟩
      · have hls : ¬ s.toList = s2.toList := fun h => h3 (toList_inj h)
        go_enter Tryd.func21, Tryd.ntmps21
        go_wp2_with fail
        go_ret
        exact ⟨retB (by simp [h3]), by go_grown⟩
    · have hb : (n == n2) = false := by simpa using h2
      go_enter Tryd.func21, Tryd.ntmps21
      go_wp2_with fail
      go_ret
      exact ⟨retB (by simp [h2]), by go_grown⟩
  · have hb : (k == k2) = false := by simpa using h1
    go_enter Tryd.func21, Tryd.ntmps21
    go_wp2_with fail
    go_ret
    exact ⟨retB (by simp [h1]), by go_grown⟩

theorem same_all (N : Nat) : SameIs N := by
  induction N with
  | zero => intro V V' hV; have := sz_pos V; omega
  | succ N ih =>
    intro V V' hV v v' w h h'
    obtain ⟨k, n, s, l, ks, A, c, A', c', rfl, rfl, _, _, _, h1, h2, _, _, hE, hS⟩ := h.open
    obtain ⟨k2, n2, s2, l2, ks2, B, d, B', d', rfl, rfl, _, _, _, h3, h4, _, _, hE2, hS2⟩ := h'.open
    have hN : szAll l ≤ N := by simp only [Va.sz] at hV; omega
    refine (same_step k n s A _ c A' _ c' k2 n2 s2 B _ d B' _ d' w (decide (ks = ks2)) (sameL l l2) (fun W hW => strs_eq A' B' c' d' ks ks2 W (hS.below hW) (hS2.below hW) h2 h4) (fun W hW => eqf_any N ih A B c d l l2 W h1 h3 hN (hE.later hW) (hE2.later hW))).mono ?_
    rintro e w' ⟨rfl, hb⟩
    exact ⟨by simp only [Va.same], hb⟩
theorem same_any (V V' : Va) (v v' : Value) (w : World) (h : VAt w V v) (h' : VAt w V' v') : Calls Tryd.prog 21 #[v, v'] w fun e w' => e = .returned (.bool (V.same V')) ∧ Below w.heap.size w w' :=
  same_all V.sz V V' (Nat.le_refl _) v v' w h h'
end Go.Proofs.YtclpbjdnollfcaaDoor
