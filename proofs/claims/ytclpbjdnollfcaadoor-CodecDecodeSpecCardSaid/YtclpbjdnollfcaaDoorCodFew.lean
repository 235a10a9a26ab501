/- Contracts over the reference of the codec, each for every value: count, Few. -/
import Derived.Test.YtclpbjdnollfcaaDoorCodDepth
namespace Go.Proofs.YtclpbjdnollfcaaDoor
set_option linter.unusedSimpArgs false
set_option linter.unusedVariables false
open Go.RowKit

def keyS : List ByteArray → Nat
  | [] => 0
  | q :: r => q.size / 50 + keyS r
theorem keyS_take {ks : List ByteArray} {i : Nat} {q : ByteArray} (h : ks[i]? = some q) : keyS (ks.take (i + 1)) = keyS (ks.take i) + q.size / 50 := by
  induction ks generalizing i with
  | nil => simp at h
  | cons y r ih =>
    cases i with
    | zero => simp at h; subst h; simp [keyS]
    | succ i => simp only [List.take_succ_cons, keyS, ih (by simpa using h)]; omega
theorem keyS_le {ks : List ByteArray} (h : ∀ (i : Nat) (q : ByteArray), ks[i]? = some q → q.size ≤ 140737488351232) : keyS ks ≤ ks.length * 2814749767025 := by
  induction ks with
  | nil => simp [keyS]
  | cons y r ih =>
    have h0 := h 0 y rfl
    have h1 := ih fun i q hq => h (i + 1) q (by simpa using hq)
    simp only [keyS, List.length_cons]
    omega
mutual
def Va.cnt : Va → Int → Nat
  | .mk _ _ s l ks, d => if d < 0 ∨ 60 < l.length ∨ 60 < ks.length then 1000 else cntL l (d - 1) (1 + s.size / 200 + ks.length + keyS ks)
def cntL : List Va → Int → Nat → Nat
  | [], _, a => a
  | x :: r, d, a => if a ≤ 1000 then cntL r d (a + x.cnt d) else a
end
theorem cntL_drop {l : List Va} {i : Nat} {x : Va} (h : l[i]? = some x) (d : Int) (a : Nat) (ha : a ≤ 1000) : cntL (l.drop i) d a = cntL (l.drop (i + 1)) d (a + x.cnt d) := by
  obtain ⟨hi, rfl⟩ := List.getElem?_eq_some_iff.1 h
  rw [List.drop_eq_getElem_cons hi]
  simp only [cntL, if_pos ha]
theorem cntL_end (l : List Va) (d : Int) (a : Nat) (h : l = [] ∨ ¬ a ≤ 1000) : cntL l d a = a := by
  cases l with
  | nil => simp [cntL]
  | cons x r =>
    rcases h with h | h
    · cases h
    · simp only [cntL, if_neg h]

def bnd (d : Int) : Nat := 1000000000000000 + 1000 * (d + 1).toNat
abbrev CntIs (N : Nat) : Prop := ∀ (V : Va), V.sz ≤ N → ∀ (d : Int), -1 ≤ d → d ≤ 20 → ∀ v w, VAt w V v → V.cnt d ≤ bnd d ∧
  Calls Tryd.prog 38 #[v, .int .i64 d] w fun e w' => e = .returned (.int .i64 (V.cnt d : Int)) ∧ Below w.heap.size w w'

theorem cntL_bnd {l : List Va} {d : Int} {B : Nat} (h : ∀ (i : Nat) (x : Va), l[i]? = some x → x.cnt d ≤ B) : ∀ a, cntL l d a ≤ max a (1000 + B) := by
  induction l with
  | nil => intro a; simp only [cntL]; omega
  | cons x r ih =>
    intro a
    have h0 := h 0 x rfl
    have h1 := ih (fun i y hy => h (i + 1) y (by simpa using hy)) (a + x.cnt d)
    simp only [cntL]
    split <;> omega

set_option maxHeartbeats 2000000 in
theorem cnt_big (k n d : Int) (s : ByteArray) (A : Option Addr) (m c : Nat) (A' : Option Addr) (m' c' : Nat) (w : World) (hs : s.size ≤ 140737488351232) (hm : m ≤ 140737488351232) (hm' : m' ≤ 140737488351232) (h : d < 0 ∨ 60 < m ∨ 60 < m') :
    Calls Tryd.prog 38 #[vaV k n s A m c A' m' c', .int .i64 d] w fun e w' => e = .returned (.int .i64 1000) ∧ Below w.heap.size w w' := by
  by_cases h1 : d < 0
  · have b1 : decide (d < 0) = true := decide_eq_true h1
    go_enter Tryd.func38, Tryd.ntmps38
    go_wp2_with fail
    go_ret
    exact ⟨rfl, by go_grown⟩
  · have b1 : decide (d < 0) = false := decide_eq_false h1
    by_cases h2 : 60 < m
    · have b2 : decide ((60 : Int) < (m : Int)) = true := decide_eq_true (by omega)
      go_enter Tryd.func38, Tryd.ntmps38
      go_wp2_with fail
      go_ret
      exact ⟨rfl, by go_grown⟩
    · have b2 : decide ((60 : Int) < (m : Int)) = false := decide_eq_false (by omega)
      have b3 : decide ((60 : Int) < (m' : Int)) = true := decide_eq_true (by omega)
      go_enter Tryd.func38, Tryd.ntmps38
      go_wp2_with fail
      go_ret
      exact ⟨rfl, by go_grown⟩

set_option maxHeartbeats 4000000 in
theorem cnt_few (N : Nat) (ih : Hid (CntIs N)) (k n d : Int) (s : ByteArray) (l : List Va) (ks : List ByteArray) (A : Option Addr) (m c : Nat) (A' : Option Addr) (m' c' : Nat) (w : World) (hd0 : 0 ≤ d) (hd1 : d ≤ 20)
    (hs : s.size ≤ 140737488351232) (hm : m ≤ 60) (hm' : m' ≤ 60) (HN : Hid (szAll l ≤ N)) (HL : Hid (l.length = m)) (HK : Hid (ks.length = m')) (HE : Hid (ElsAt w A l)) (HS : Hid (StrsAt w A' ks)) (HB : Hid (∀ a, a ≤ 500000000000000 → cntL l (d - 1) a ≤ bnd d)) :
    Calls Tryd.prog 38 #[vaV k n s A m c A' m' c', .int .i64 d] w fun e w' => e = .returned (.int .i64 (cntL l (d - 1) (1 + s.size / 200 + m' + keyS ks) : Nat)) ∧ Below w.heap.size w w' := by
  have b1 : decide (d < 0) = false := decide_eq_false (by omega)
  have b2 : decide ((60 : Int) < (m : Int)) = false := decide_eq_false (by omega)
  have b3 : decide ((60 : Int) < (m' : Int)) = false := decide_eq_false (by omega)
  have hA' : ∃ b' o', (0 < m' → A' = some ⟨b', o', none⟩) ∧ (0 < m' → b' < w.heap.size) ∧ ∀ (i : Nat) (q : ByteArray), ks[i]? = some q → w.cell? ⟨b', o' + i, none⟩ = some (.string q) := by
    by_cases h0 : 0 < ks.length
    · obtain ⟨b, o, rfl, hb, hr⟩ := (unhide HS).row h0
      exact ⟨b, o, fun _ => rfl, fun _ => hb, hr⟩
    · exact ⟨0, 0, fun h => absurd h (by rw [← unhide HK]; exact h0), fun h => absurd h (by rw [← unhide HK]; exact h0), fun i q hq => by have := (List.getElem?_eq_some_iff.1 hq).1; omega⟩
  obtain ⟨b', o', hA1, hA2, hAr⟩ := hA'
  have hK2 : keyS ks ≤ ks.length * 2814749767025 := keyS_le fun i q hq => by obtain ⟨_, _, _, _, h⟩ := (unhide HS) i q hq; exact h
  rw [unhide HK] at hK2
  have HA1 := hide hA1; have HA2 := hide hA2; have HAR := hide hAr; have HK2 := hide hK2
  clear hA1 hA2 hAr hK2
  go_enter Tryd.func38, Tryd.ntmps38
  go_wp2_with fail
  obtain ⟨W1, hW1⟩ : ∃ W1, W1 = w.alloc (.cells #[.int .i64 k, .int .i64 n, .string s, .slice A m c, .slice A' m' c'] 25) := ⟨_, rfl⟩
  rw [← hW1]
  have f2 : W1.cell? ⟨w.heap.size, 2, none⟩ = some (.string s) := by rw [hW1]; go_simp
  have f3 : W1.cell? ⟨w.heap.size, 3, none⟩ = some (.slice A m c) := by rw [hW1]; go_simp
  have f4 : W1.cell? ⟨w.heap.size, 4, none⟩ = some (.slice A' m' c') := by rw [hW1]; go_simp
  have HB1 : Hid (Below w.heap.size w W1) := by rw [hW1]; exact (Below.refl _ _).alloc (Nat.le_refl _) _
  have hz : w.heap.size < W1.heap.size := by rw [hW1]; simp
  clear hW1
  go_loop [5, 6] (fun a i => ∃ j : Nat, j ≤ m' ∧ i = .int .i64 j ∧ a = .int .i64 ((1 + s.size / 200 + m' + keyS (ks.take j) : Nat) : Int)) (fun _ i => m' - (intOf i).toNat)
  case atStart => exact ⟨0, Nat.zero_le _, rfl, congrArg (Value.int .i64) (by simp only [List.take_zero, keyS]; omega)⟩
  case round =>
    obtain ⟨j, hj, rfl, rfl⟩ := hrel
    by_cases hlt : j < m'
    · obtain ⟨q, hq⟩ : ∃ x, ks[j]? = some x := ⟨_, List.getElem?_eq_getElem (by rw [unhide HK]; exact hlt)⟩
      have e0 := (unhide HAR) j q hq
      rw [← (unhide HB1).cell (p := ⟨b', o' + j, none⟩) ((unhide HA2) (by omega))] at e0
      have hqs : q.size ≤ 140737488351232 := by
        obtain ⟨_, _, _, _, h⟩ := (unhide HS) j q hq
        exact h
      have hkt := keyS_take hq
      have hkl : keyS (ks.take j) ≤ j * 2814749767025 := by
        have := keyS_le (ks := ks.take j) fun i q hq => by
          obtain ⟨_, _, _, _, h⟩ := (unhide HS) i q (by rw [List.getElem?_take] at hq; split at hq; exact hq; cases hq)
          exact h
        rw [List.length_take, unhide HK, Nat.min_eq_left hj] at this
        exact this
      generalize keyS (ks.take j) = y at hkt hkl ⊢
      have HKT := hide hkt
      obtain rfl := (unhide HA1) (by omega)
      clear hq hkt
      go_wp2_with fail
      go_round
      case rel => exact ⟨j + 1, by omega, by go_num, congrArg (Value.int .i64) (by rw [unhide HKT]; omega)⟩
      case measure => simp [intOf]; omega
    · have htk : ks.take j = ks := List.take_of_length_le (by rw [unhide HK]; omega)
      rw [htk]
      have hk2 := unhide HK2
      have ha0 : 1 + s.size / 200 + m' + keyS ks ≤ 500000000000000 := by omega
      generalize haa : 1 + s.size / 200 + m' + keyS ks = a0 at ha0 ⊢
      have HAA := hide haa
      clear htk hk2 haa
      go_wp2_with fail
      have HA0 := hide ha0
      clear ha0
      go_loopw [5, 7] (fun a i wl => ∃ (j2 : Nat) (ac : Nat), j2 ≤ m ∧ i = .int .i64 j2 ∧ a = .int .i64 (ac : Int) ∧ ac ≤ 2000000000000000 ∧ cntL (l.drop j2) (d - 1) ac = cntL l (d - 1) a0 ∧ Below W1.heap.size W1 wl) (fun _ i _ => m - (intOf i).toNat)
      case atStart => exact ⟨0, a0, Nat.zero_le _, rfl, rfl, by have := unhide HA0; omega, rfl, Below.refl _ _⟩
      case round =>
        obtain ⟨j2, ac, hj2, rfl, rfl, hac, hcl, hb⟩ := hrel
        have HBW := hide hb; have HCL := hide hcl
        clear hb hcl
        rw [← (unhide HBW).cell (p := ⟨w.heap.size, 3, none⟩) hz] at f3
        have hBw := hide ((unhide HB1).trans ((unhide HBW).mono (unhide HB1).size))
        by_cases hlt2 : j2 < m
        · by_cases hle : ac ≤ 1000
          · obtain ⟨x, hx⟩ : ∃ x, l[j2]? = some x := ⟨_, List.getElem?_eq_getElem (by rw [unhide HL]; exact hlt2)⟩
            obtain ⟨b, o, k1, n1, s1, A1, m1, c1, A2, m2, c2, hAe, d0, d1, d2, d3, d4, hv⟩ := (unhide HE) j2 x hx
            obtain rfl := hAe
            have hbw := World.block_lt_of_cell? w _ d0
            rw [← (unhide hBw).cell (p := ⟨b, o + j2 * 5, none⟩) hbw] at d0
            rw [← (unhide hBw).cell (p := ⟨b, o + j2 * 5 + 1, none⟩) hbw] at d1
            rw [← (unhide hBw).cell (p := ⟨b, o + j2 * 5 + 2, none⟩) hbw] at d2
            rw [← (unhide hBw).cell (p := ⟨b, o + j2 * 5 + 3, none⟩) hbw] at d3
            rw [← (unhide hBw).cell (p := ⟨b, o + j2 * 5 + 4, none⟩) hbw] at d4
            obtain ⟨hcb, hC⟩ := (unhide ih) x (Nat.le_trans (szAll_mem hx) (unhide HN)) (d - 1) (by omega) (by omega) _ wr (hv.later (unhide hBw))
            have hst := cntL_drop hx (d - 1) ac hle
            rw [unhide HCL] at hst
            have hbn : bnd (d - 1) ≤ 1000000000100000 := by unfold bnd; omega
            generalize x.cnt (d - 1) = y at hcb hC hst
            have HC := hide hC; have HST := hide hst
            have hg1 : decide ((ac : Int) ≤ 1000) = true := decide_eq_true (by omega)
            clear hC hst hx hv
            go_wp2_with fail
            refine (unhide HC).mono ?_; rintro e w3 ⟨rfl, hb3⟩
            have HB3 := hide hb3; clear hb3
            go_wp2_with fail
            go_roundw
            case rel => exact ⟨j2 + 1, ac + y, by omega, by go_num, by go_num, by omega, (unhide HST).symm, (unhide HBW).trans ((unhide HB3).mono (unhide HBW).size)⟩
            case measure => simp [intOf]; omega
          · have hend := cntL_end (l.drop j2) (d - 1) ac (.inr hle)
            have hg1 : decide ((ac : Int) ≤ 1000) = false := decide_eq_false (by omega)
            rw [unhide HCL] at hend
            have HEN := hide hend; clear hend
            go_wp2_with fail
            go_ret
            exact ⟨retI (by rw [unhide HAA, unhide HEN]), unhide hBw⟩
        · have hend := cntL_end (l.drop j2) (d - 1) ac (.inl (List.drop_eq_nil_of_le (by rw [unhide HL]; omega)))
          rw [unhide HCL] at hend
          have HEN := hide hend; clear hend
          go_wp2_with fail
          go_ret
          exact ⟨retI (by rw [unhide HAA, unhide HEN]), unhide hBw⟩

theorem cnt_all (N : Nat) : CntIs N := by
  induction N with
  | zero => intro V hV; have := sz_pos V; omega
  | succ N ih =>
    intro V hV d hd0 hd1 v w h
    obtain ⟨k, n, s, l, ks, A, c, A', c', rfl, rfl, _, _, hs, h1, h2, _, _, hE, hS⟩ := h.open
    by_cases hb : d < 0 ∨ 60 < l.length ∨ 60 < ks.length
    · have e : Va.cnt (.mk k n s l ks) d = 1000 := by simp only [Va.cnt, if_pos hb]
      rw [e]
      exact ⟨by unfold bnd; omega, cnt_big k n d s A _ c A' _ c' w hs h1 h2 hb⟩
    · have e : Va.cnt (.mk k n s l ks) d = cntL l (d - 1) (1 + s.size / 200 + ks.length + keyS ks) := by simp only [Va.cnt, if_neg hb]
      have hN : szAll l ≤ N := by simp only [Va.sz] at hV; omega
      have hB : ∀ a, a ≤ 500000000000000 → cntL l (d - 1) a ≤ bnd d := by
        intro a ha
        have := cntL_bnd (d := d - 1) (B := bnd (d - 1)) (l := l) (fun i x hx => by
          obtain ⟨b, o, k1, n1, s1, A1, m1, c1, A2, m2, c2, _, _, _, _, _, _, hv⟩ := hE i x hx
          exact (ih x (Nat.le_trans (szAll_mem hx) hN) (d - 1) (by omega) (by omega) _ w hv).1) a
        unfold bnd at *
        omega
      have hk : keyS ks ≤ ks.length * 2814749767025 := keyS_le fun i q hq => by obtain ⟨_, _, _, _, h⟩ := hS i q hq; exact h
      rw [e]
      exact ⟨hB _ (by omega), cnt_few N ih k n d s l ks A _ c A' _ c' w (by omega) hd1 hs (by omega) (by omega) hN rfl rfl hE hS hB⟩

def fewB (V : Va) : Bool := decide (V.cnt 20 ≤ 200)
set_option maxHeartbeats 1000000 in
theorem few_any (V : Va) (v : Value) (w : World) (h : VAt w V v) : Calls Tryd.prog 25 #[v, .int .i64 20] w fun e w' => e = .returned (.bool (fewB V)) ∧ Below w.heap.size w w' := by
  have hc := fun (W : World) (hW : Below w.heap.size w W) => (cnt_all V.sz V (Nat.le_refl _) 20 (by decide) (by decide) v W (h.later hW)).2
  have hb := (cnt_all V.sz V (Nat.le_refl _) 20 (by decide) (by decide) v w h).1
  obtain ⟨k, n, s, l, ks, A, c, A', c', _, rfl, _⟩ := h.open
  unfold fewB
  unfold bnd at hb
  generalize V.cnt 20 = q at hc hb ⊢
  have HC := hide hc
  have hd : decide ((q : Int) ≤ 200) = decide (q ≤ 200) := by rw [decide_eq_decide]; omega
  rw [← hd]
  clear hc h hd
  go_enter Tryd.func25, Tryd.ntmps25
  go_wp2_with fail
  refine ((unhide HC) _ (by go_grown)).mono ?_; rintro e w1 ⟨rfl, hb1⟩
  have HB := hide (advB (Below.refl w.heap.size w) hb1)
  clear hb1
  go_wp2_with fail
  go_ret
  exact ⟨rfl, unhide HB⟩
end Go.Proofs.YtclpbjdnollfcaaDoor
