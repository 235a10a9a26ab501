/- The law MoneyAdds returns true for all lists. -/
import Derived.Test.YthbdhlcimgiemaaDoorMonApp
namespace Go.Proofs.YthbdhlcimgiemaaDoor
set_option linter.unusedSimpArgs false
set_option linter.unusedVariables false
open Go.RowKit Go.LawClose

theorem sumGo_add : ∀ {l : List Int} {n r : Int}, sumGo n l = some r → r = n + tot l
  | [], n, r, h => by simp [sumGo] at h; simp [tot]; omega
  | x :: t, n, r, h => by
    unfold sumGo at h
    split at h
    · have := sumGo_add h
      simp only [tot]
      omega
    · cases h
theorem sumGo_am : ∀ {l : List Int} {n r : Int}, Am n → sumGo n l = some r → Am r
  | [], n, r, hn, h => by simp [sumGo] at h; exact h ▸ hn
  | x :: t, n, r, hn, h => by
    unfold sumGo at h
    split at h
    · rename_i hc
      exact sumGo_am hc.2 h
    · cases h
theorem sumE_zero {l : List Int} (h : sumE l = 0) : sumGo 0 l = some (tot l) ∧ sumV l = tot l ∧ Am (tot l) := by
  unfold sumE at h
  cases hs : sumGo 0 l with
  | none => rw [hs] at h; simp at h
  | some r =>
    have h1 := sumGo_add hs
    have h2 := sumGo_am (by decide) hs
    have e : r = tot l := by omega
    subst e
    refine ⟨rfl, by unfold sumV; rw [hs]; rfl, h2⟩
theorem tot_append : ∀ (a b : List Int), tot (a ++ b) = tot a + tot b
  | [], b => by simp [tot]
  | x :: r, b => by simp only [List.cons_append, tot, tot_append r b]; omega
theorem sum_two {x y : Int} (hx : Am x) (hy : Am y) (h : Am (x + y)) : sumV [x, y] = x + y ∧ sumE [x, y] = 0 := by
  have e : sumGo 0 [x, y] = some (x + y) := by
    have h0 : (0 : Int) + x = x := by omega
    simp only [sumGo, h0]
    rw [if_pos ⟨hx, hx⟩, if_pos ⟨hy, h⟩]
  unfold sumV sumE
  rw [e]
  exact ⟨rfl, rfl⟩
/-- the law's walk -/
theorem appends (A : Option Addr) (c : Nat) (a : List Int) (B : Option Addr) (d : Nat) (b : List Int) (w : World) (hA : It w A a) (hB : It w B b) (hnA : A = none → c = 0) (hnB : B = none → d = 0) (hla : a.length ≤ 500) (hlb : b.length ≤ 500) :
    ∃ v1 w1, (Builtin.append_ #[22, 22] 22 #[.slice (some ⟨w.heap.size, 0, none⟩) 0 0, .slice A a.length c]).run Tryd.prog (w.alloc (.cells #[] 3)) = .ok v1 w1 ∧
      ∃ V C w2 k, Hid (k = (a ++ b).length) ∧ (Builtin.append_ #[22, 22] 22 #[v1, .slice B b.length d]).run Tryd.prog w1 = .ok (.slice V k C) w2 ∧ It w2 V (a ++ b) ∧ Below w.heap.size w w2 := by
  have hb0 : Below w.heap.size w (w.alloc (.cells #[] 3)) := (Below.refl _ _).alloc (Nat.le_refl _) _
  obtain ⟨v1, w1, hr1, ho1, hg1⟩ := run_append_I (own_new w) 22 A c (hA.keep hb0) hnA (by simp; omega) hb0.size
  have hb1 := grown_below hb0 hg1 (fun k hk => ((own_new w).lt k hk).1)
  rw [List.nil_append] at ho1
  obtain ⟨v2, w2, hr2, ho2, hg2⟩ := run_append_I ho1 22 B d (hB.keep hb1) hnB (by omega) hb1.size
  have hb2 := grown_below hb1 hg2 (fun k hk => (ho1.lt k hk).1)
  obtain ⟨V, C, rfl, hI, _, _⟩ := own_it ho2 (fun x hx => by
    rcases List.mem_append.1 hx with h | h
    · exact hA.i64 x h
    · exact hB.i64 x h)
  exact ⟨v1, w1, hr1, V, C, w2, _, rfl, hr2, hI, hb2⟩
theorem sumE_no {l : List Int} (h : sumE l ≠ 0) : sumE l = 50 := by
  unfold sumE at *
  split at h
  · exact absurd rfl h
  · rename_i h2; rw [if_neg h2]
theorem wrap_len {a b : Nat} (ha : a ≤ 140737488351232) (hb : b ≤ 140737488351232) : IntKind.i64.wrap ((a : Int) + (b : Int)) = (a : Int) + (b : Int) := IntWalk.i64_in _ (by omega)
set_option maxRecDepth 100000 in
set_option maxHeartbeats 4000000 in
theorem adds_any (A : Option Addr) (c : Nat) (a : List Int) (B : Option Addr) (d : Nat) (b : List Int) (w : World) (hA : It w A a) (hB : It w B b) (hnA : A = none → c = 0) (hnB : B = none → d = 0) (hla : a.length ≤ 140737488351232) (hlb : b.length ≤ 140737488351232) (hE : Env w) :
    Calls Tryd.prog 9 #[.slice A a.length c, .slice B b.length d] w (LawOk w) := by
  have hS := sane_any w hE
  have HS := hide hS
  have hw := wrap_len hla hlb
  by_cases h : (500 : Int) < (a.length : Int) + (b.length : Int)
  · clear hA hB hS hE hnA hnB
    generalize a.length = n at *
    generalize b.length = m at *
    go_enter Tryd.func9, Tryd.ntmps9
    go_wp2_with fail
    refine (unhide HS).mono ?_; rintro e w1 ⟨rfl, hb1⟩
    have HB1 := hide hb1
    clear hb1
    go_wp2_with fail
    go_ret
    exact ⟨rfl, unhide HB1⟩
  have hn5 : a.length ≤ 500 := by omega
  have hm5 : b.length ≤ 500 := by omega
  have H1 := hide (fun w' (hb : Below w.heap.size w w') => sum_any A c a w' (hA.keep hb) (by omega))
  have H2 := hide (fun w' (hb : Below w.heap.size w w') => sum_any B d b w' (hB.keep hb) (by omega))
  have H3 := hide (fun W (hW : Below w.heap.size w W) => appends A c a B d b W (hA.keep hW) (hB.keep hW) hnA hnB hn5 hm5)
  have H4 := hide (fun W (hW : Below w.heap.size w W) => appends B d b A c a W (hB.keep hW) (hA.keep hW) hnB hnA hm5 hn5)
  have HLA := hide hla; have HLB := hide hlb
  clear hA hB hS hE hnA hnB hla hlb hn5 hm5
  generalize hna : a.length = n at *
  generalize hnb : b.length = m at *
  have HNA := hide hna; have HNB := hide hnb
  clear hna hnb
  obtain ⟨x, hx⟩ : ∃ q, sumV a = q := ⟨_, rfl⟩
  obtain ⟨y, hy⟩ : ∃ q, sumV b = q := ⟨_, rfl⟩
  obtain ⟨z, hz⟩ : ∃ q, sumV (a ++ b) = q := ⟨_, rfl⟩
  obtain ⟨u, hu⟩ : ∃ q, sumV (b ++ a) = q := ⟨_, rfl⟩
  obtain ⟨fa, hfa⟩ : ∃ q, sumE a = q := ⟨_, rfl⟩
  obtain ⟨fb, hfb⟩ : ∃ q, sumE b = q := ⟨_, rfl⟩
  obtain ⟨fg, hfg⟩ : ∃ q, sumE (a ++ b) = q := ⟨_, rfl⟩
  obtain ⟨fh, hfh⟩ : ∃ q, sumE (b ++ a) = q := ⟨_, rfl⟩
  have VX := hide hx; have VY := hide hy; have VZ := hide hz; have VU := hide hu
  have FA := hide hfa; have FB := hide hfb; have FG := hide hfg; have FH := hide hfh
  clear hx hy hz hu hfa hfb hfg hfh
  go_enter Tryd.func9, Tryd.ntmps9
  go_wp2_with fail
  refine (unhide HS).mono ?_; rintro e w1 ⟨rfl, hb1⟩
  have HB1 := hide hb1
  clear hb1
  go_wp2_with fail
  refine ((unhide H1) _ (unhide HB1)).mono ?_; rintro e wx ⟨rfl, rfl⟩
  rw [unhide VX, unhide FA]
  go_wp2_with fail
  refine ((unhide H2) _ (unhide HB1)).mono ?_; rintro e wx ⟨rfl, rfl⟩
  rw [unhide VY, unhide FB]
  obtain ⟨v1, V1, hr1, G1, C1, V2, ab, HAB, hr2, hI2, hb2⟩ := (unhide H3) wx (unhide HB1)
  have HR1 := hide hr1; have HR2 := hide hr2; have HI2 := hide hI2
  have HB2 := hide (thenB (unhide HB1) hb2)
  clear hr1 hr2 hI2 hb2
  go_upto_region 7 with fail
  refine wp_region_list ?_
  refine wpList_plain rfl fun Kt hKt => ?_
  go_simp
  refine hKt _ _ ?_
  clear hKt Kt
  refine wpList_plain rfl fun Kt hKt => ?_
  go_simp
  refine hKt _ _ ?_
  clear hKt Kt
  refine wpList_app rfl (.tmp 34) (.tmp 35) 22 rfl _ _ v1 V1 rfl rfl (unhide HR1) ?_
  refine wpList_plain rfl fun Kt hKt => ?_
  go_simp
  refine hKt _ _ ?_
  clear hKt Kt
  refine wpList_app rfl (.tmp 36) (.tmp 37) 22 rfl _ _ _ V2 rfl rfl (unhide HR2) ?_
  go_wp2_with fail
  have hs1 := sum_any G1 C1 (a ++ b) V2 (unhide HI2) (by rw [List.length_append]; have := unhide HNA; have := unhide HNB; omega)
  rw [unhide VZ, unhide FG] at hs1
  rw [← unhide HAB] at hs1
  refine hs1.mono ?_; rintro e wx ⟨rfl, rfl⟩
  clear hs1 HR1 HR2 HI2
  obtain ⟨v3, V3, hr1, G3, C3, V4, ba, HBA, hr2, hI2, hb2⟩ := (unhide H4) wx (unhide HB2)
  have HR1 := hide hr1; have HR2 := hide hr2; have HI2 := hide hI2
  have HB4 := hide (thenB (unhide HB2) hb2)
  clear hr1 hr2 hI2 hb2
  go_upto_region 8 with fail
  refine wp_region_list ?_
  refine wpList_plain rfl fun Kt hKt => ?_
  go_simp
  refine hKt _ _ ?_
  clear hKt Kt
  refine wpList_plain rfl fun Kt hKt => ?_
  go_simp
  refine hKt _ _ ?_
  clear hKt Kt
  refine wpList_app rfl (.tmp 43) (.tmp 44) 22 rfl _ _ v3 V3 rfl rfl (unhide HR1) ?_
  refine wpList_plain rfl fun Kt hKt => ?_
  go_simp
  refine hKt _ _ ?_
  clear hKt Kt
  refine wpList_app rfl (.tmp 45) (.tmp 46) 22 rfl _ _ _ V4 rfl rfl (unhide HR2) ?_
  go_wp2_with fail
  have hs1 := sum_any G3 C3 (b ++ a) V4 (unhide HI2) (by rw [List.length_append]; have := unhide HNA; have := unhide HNB; omega)
  rw [unhide VU, unhide FH] at hs1
  rw [← unhide HBA] at hs1
  refine hs1.mono ?_; rintro e wx ⟨rfl, rfl⟩
  clear hs1 HR1 HR2 HI2
  go_upto_region 9 with fail
  by_cases ha : fa = 0
  · subst ha
    by_cases hb : fb = 0
    · subst hb
      by_cases hg : fg = 0
      · subst hg
        by_cases hh : fh = 0
        · subst hh
          obtain ⟨_, ex, ax⟩ := sumE_zero (unhide FA)
          obtain ⟨_, ey, ay⟩ := sumE_zero (unhide FB)
          obtain ⟨_, ez, az⟩ := sumE_zero (unhide FG)
          obtain ⟨_, eu, au⟩ := sumE_zero (unhide FH)
          rw [unhide VX] at ex
          rw [unhide VY] at ey
          rw [unhide VZ, tot_append, ← ex, ← ey] at ez
          rw [unhide VU, tot_append, ← ex, ← ey, Int.add_comm] at eu
          rw [tot_append, ← ex, ← ey] at az
          rw [← ex] at ax
          rw [← ey] at ay
          obtain ⟨s1, s2⟩ := sum_two ax ay az
          have HS2 := hide s1; have HE2 := hide s2
          have HX : Hid (I64 x) := ⟨by have := ax.1; omega, by have := ax.2; omega⟩
          have HY : Hid (I64 y) := ⟨by have := ay.1; omega, by have := ay.2; omega⟩
          clear s1 s2 ax ay az au ex ey
          have HZ := hide ez; have HU := hide eu
          clear ez eu
          obtain rfl : z = x + y := unhide HZ
          obtain rfl : u = x + y := unhide HU
          go_wp2_with fail
          generalize hX : World.alloc _ _ = w5
          have hb5 : Below wx.heap.size wx w5 := hX ▸ (Below.refl _ _).alloc (Nat.le_refl _) _
          have hI5 : It w5 (some ⟨wx.heap.size, 0, none⟩) [x, y] := hX ▸ pair_it wx x y (unhide HX) (unhide HY) _
          have HB5 := hide (thenB (unhide HB4) hb5)
          clear hX hb5
          refine (sum_any _ 2 [x, y] w5 hI5 (by simp)).mono ?_; rintro e wy ⟨rfl, rfl⟩
          rw [unhide HS2, unhide HE2]
          clear hI5
          go_wp2_with fail
          go_ret
          exact ⟨by simp, unhide HB5⟩
        · have hq : fh = 50 := by rw [← unhide FH]; exact sumE_no (by rw [unhide FH]; exact hh)
          subst hq
          clear hh
          go_wp2_with fail
          go_ret
          exact ⟨rfl, unhide HB4⟩
      · have hq : fg = 50 := by rw [← unhide FG]; exact sumE_no (by rw [unhide FG]; exact hg)
        subst hq
        clear hg
        go_wp2_with fail
        go_ret
        exact ⟨rfl, unhide HB4⟩
    · have hq : fb = 50 := by rw [← unhide FB]; exact sumE_no (by rw [unhide FB]; exact hb)
      subst hq
      clear hb
      go_wp2_with fail
      go_ret
      exact ⟨rfl, unhide HB4⟩
  · have hq : fa = 50 := by rw [← unhide FA]; exact sumE_no (by rw [unhide FA]; exact ha)
    subst hq
    clear ha
    go_wp2_with fail
    go_ret
    exact ⟨rfl, unhide HB4⟩
end Go.Proofs.YthbdhlcimgiemaaDoor
