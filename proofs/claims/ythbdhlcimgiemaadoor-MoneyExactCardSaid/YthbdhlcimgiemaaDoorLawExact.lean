/- The law MoneyExact returns true for all amounts and weights. -/
import Derived.Test.YthbdhlcimgiemaaDoorMonExact
import Derived.Test.YthbdhlcimgiemaaDoorLawScales
import Derived.Deep.DeepCutAuto
import Derived.Deep.CutRange
namespace Go.Proofs.YthbdhlcimgiemaaDoor
set_option linter.unusedSimpArgs false
set_option linter.unusedVariables false
open Go.RowKit Go.LawClose

theorem tot_scale (s : Int) : ∀ l : List Int, tot (l.map fun x => s * x) = s * tot l
  | [] => by simp [tot]
  | x :: r => by simp only [List.map_cons, tot, tot_scale s r, Int.mul_add]
theorem sgn_abs (a : Int) : sgn a * absI a = a := by unfold sgn absI; split <;> omega
/-- the parts of an amount -/
structure Parts (a : Int) (ws X : List Int) : Prop where
  len : X.length = ws.length
  at_ : ∀ i, i < ws.length → X.getD i 0 = sgn a * partAt (absI a) ws i
  sum : tot X = a
  pre : ∀ k, Am (tot (X.take k))
theorem parts_of {a : Int} {ws : List Int} (ha : Am a) (hW : Wok ws) : Parts a ws (splitV a ws) := by
  rw [splitV_ok ha hW]
  have hb := absI_bd ha
  refine ⟨by simp [splitP_len], fun i hi => ?_, ?_, fun k => ?_⟩
  · rw [← splitP_at _ _ _ hi]
    simp only [List.getD_eq_getElem?_getD, List.getElem?_map, List.getElem?_eq_getElem (show i < (splitP (absI a) ws).length by rw [splitP_len]; exact hi), Option.map_some, Option.getD_some]
  · rw [tot_scale, tot_splitP hW, sgn_abs]
  · rw [← List.map_take, tot_scale]
    have h1 := tot_take_le (l := splitP (absI a) ws) k fun x hx => (splitP_mem hb.1 hW hx).1
    rw [tot_splitP hW] at h1
    rcases sgn_cases a with h | h <;> rw [h] <;> exact ⟨by omega, by omega⟩
theorem parts_sum {X : List Int} (h : ∀ k, Am (tot (X.take k))) (hX : ∀ k, k < X.length → Am (X.getD k 0)) : sumV X = tot X ∧ sumE X = 0 := by
  have key : ∀ j, j ≤ X.length → sumGo 0 X = sumGo (tot (X.take j)) (X.drop j) := by
    intro j
    induction j with
    | zero => intro _; simp [tot]
    | succ j ih =>
      intro hj
      have hlt : j < X.length := by omega
      rw [ih (by omega), drop_at X j hlt, sumGo, if_pos ⟨hX j hlt, by rw [← tot_take hlt]; exact h (j + 1)⟩, tot_take hlt]
  have e := key X.length (Nat.le_refl _)
  rw [List.take_length, List.drop_length] at e
  unfold sumV sumE
  rw [e]
  exact ⟨rfl, rfl⟩
theorem row_at {w : World} {b o : Nat} {l : List Int} (h : It w (some ⟨b, o, none⟩) l) {k : Nat} (hk : k < l.length) : w.cell? ⟨b, o + k, none⟩ = some (.int .i64 (l.getD k 0)) := by
  obtain ⟨b', o', e, hc⟩ := h.at_ (List.ne_nil_of_length_pos (Nat.lt_of_le_of_lt (Nat.zero_le _) hk))
  injection e with e; injection e with e1 e2
  subst e1 e2
  exact hc k hk
theorem max_neg {x p : Int} (h0 : 0 ≤ p) (h : x = p ∨ x = -p) : max x (-x) = p := by omega

set_option maxRecDepth 100000 in
set_option maxHeartbeats 4000000 in
theorem exact_any (a : Int) (A : Option Addr) (c : Nat) (l : List Int) (w : World) (ha0 : I64 a) (hI : It w A l) (hl : l.length ≤ 140737488351232) (hE : Env w) :
    Calls Tryd.prog 6 #[.int .i64 a, .slice A l.length c] w (LawOk w) := by
  have hS := sane_any w hE
  have HS := hide hS
  by_cases h : (256 : Int) < (l.length : Int)
  · clear hI hS hE
    generalize l.length = n at *
    go_enter Tryd.func6, Tryd.ntmps6
    go_wp2_with fail
    refine (unhide HS).mono ?_; rintro e w1 ⟨rfl, hb1⟩
    have HB1 := hide hb1
    clear hb1
    go_wp2_with fail
    go_ret
    exact ⟨rfl, unhide HB1⟩
  have hs1 := fun W (hB : Below w.heap.size w W) => split_any A c a l W (hI.keep hB) (by omega)
  unfold SplitIs at hs1
  by_cases hok : Am a ∧ Wok l
  · obtain ⟨ha, hW⟩ := hok
    obtain ⟨X, hX⟩ : ∃ X, X = splitV a l := ⟨_, rfl⟩
    have hP := parts_of ha hW
    have hE0 : splitE a l = 0 := by unfold splitE; rw [if_pos ha, if_pos hW]
    have hx64 := splitV_i64 a l
    rw [hE0] at hs1
    rw [← hX] at hs1 hP hx64
    obtain ⟨n, hn⟩ : ∃ n, n = l.length := ⟨_, rfl⟩
    rw [← hn] at hs1 h ⊢
    have hn256 : n ≤ 256 := by omega
    have HS1 := hide hs1; have HP := hide hP; have HX64 := hide hx64; have HN := hide hn; have HI := hide hI; have HW := hide hW
    obtain ⟨T, hT⟩ : ∃ T, T = tot l := ⟨_, rfl⟩
    have HT := hide hT
    have ha1 := ha.1
    have ha2 := ha.2
    clear hs1 hP hx64 hn hI hW hX hE0 hT hS hE hl ha0
    go_enter Tryd.func6, Tryd.ntmps6
    go_wp2_with fail
    refine (unhide HS).mono ?_; rintro e w1 ⟨rfl, hb1⟩
    have HB1 := hide hb1
    clear hb1
    go_wp2_with fail
    refine ((unhide HS1) _ (unhide HB1)).mono ?_; rintro e w2 ⟨v2, rfl, hO2, hb2⟩
    obtain ⟨A3, c3, rfl, hI3, _, _⟩ := own_it hO2 (unhide HX64)
    have HI3 := hide hI3
    have HB2 := hide (thenB (unhide HB1) hb2)
    rw [show X.length = n by rw [(unhide HP).len]; exact (unhide HN).symm]
    clear hO2 hI3 hb2
    go_wp2_with fail
    go_loop [7, 43] (fun s i => ∃ (k : Nat) (m : Int), k ≤ n ∧ 0 ≤ m ∧ m ≤ 1000 * k ∧ T = m + tot (l.drop k) ∧ s = .int .i64 m ∧ i = .int .i64 (k : Int)) (fun _ i => n - (intOf i).toNat)
    case atStart => exact ⟨0, 0, Nat.zero_le _, by decide, by decide, by rw [List.drop_zero, unhide HT]; omega, rfl, rfl⟩
    case round =>
      obtain ⟨k, m, hk, hm1, hm2, hs, rfl, rfl⟩ := hrel
      have HSS := hide hs
      clear hs
      by_cases hlt : k < n
      · have hkl : k < l.length := by have := unhide HN; omega
        obtain ⟨b, o, rfl, hc⟩ := ((unhide HI).keep (unhide HB2)).at_ (List.ne_nil_of_length_pos (Nat.lt_of_le_of_lt (Nat.zero_le _) hkl))
        have hck := hc k hkl
        have hd := drop_at l k hkl
        obtain ⟨hx1, hx2⟩ := (unhide HW).2.2.1.getD k
        generalize l.getD k 0 = x at hck hd hx1 hx2
        have HD := hide hd
        clear hc hd hkl
        have hw : IntKind.i64.wrap (m + x) = m + x := IntWalk.i64_in _ (by omega)
        go_wp2_with fail
        go_round
        case rel => exact ⟨k + 1, m + x, by omega, by omega, by omega, by rw [unhide HSS, unhide HD, tot]; omega, rfl, by go_num⟩
        case measure => simp [intOf]; omega
      · have e : T = m := by rw [unhide HSS, List.drop_of_length_le (by have := unhide HN; omega)]; simp [tot]
        subst e
        have hT0 : 0 < T := by rw [unhide HT]; exact (unhide HW).2.2.2
        have hTb : (T == 0) = false := by simp; omega
        clear HSS
        go_wp2_with fail
        refine (check_ok a _ ha).mono ?_; rintro e wx ⟨rfl, rfl⟩
        go_wp2_with fail
        go_loopw [8, 66] (fun s i wr => ∃ j : Nat, j ≤ n ∧ i = .int .i64 (j : Int) ∧ s = .int .i64 (tot (X.take j)) ∧ Below wx.heap.size wx wr) (fun s i wr => n - (intOf i).toNat)
        case atStart => exact ⟨0, Nat.zero_le _, rfl, by simp [tot], Below.refl _ _⟩
        case round =>
          obtain ⟨j, hj, rfl, rfl, hbj⟩ := hrel
          have HBJ := hide hbj
          by_cases hlt2 : j < n
          · have hjl : j < l.length := (unhide HN) ▸ hlt2
            have HJL := hide hjl
            have hjX : j < X.length := by rw [(unhide HP).len]; exact hjl
            obtain ⟨b, o, rfl, hc⟩ := ((unhide HI).keep (thenB (unhide HB2) hbj)).at_ (List.ne_nil_of_length_pos (Nat.lt_of_le_of_lt (Nat.zero_le _) hjl))
            obtain ⟨b3, o3, rfl, hc3⟩ := ((unhide HI3).keep hbj).at_ (List.ne_nil_of_length_pos (Nat.lt_of_le_of_lt (Nat.zero_le _) hjX))
            have hv := hc j hjl
            have hx := hc3 j hjX
            have hxp := (unhide HP).at_ j hjl
            have hpb := part_le (absI_bd ha).1 (unhide HW) hjl
            have hpe := part_exact (P := absI a) (unhide HW) hjl
            have hpz := part_zero (P := absI a) (unhide HW) hjl
            have hPb := absI_bd ha
            obtain ⟨hv0, hv1⟩ := (unhide HW).2.2.1.getD j
            have hmul := mul_bd (a := absI a) (p := l.getD j 0) ⟨by omega, hPb.2⟩ hv0 hv1
            have hmul0 : 0 ≤ absI a * l.getD j 0 := Int.mul_nonneg hPb.1 hv0
            have hts := tot_take hjX
            have hpre1 := (unhide HP).pre j
            have hpre2 := (unhide HP).pre (j + 1)
            rw [hts] at hpre2
            rw [← unhide HT] at hpe
            have hPa : max a (-a) = absI a := by unfold absI; split <;> omega
            have hsg : (sgn a = 1 ∧ 0 ≤ a) ∨ (sgn a = -1 ∧ a < 0) := by unfold sgn; split <;> simp <;> omega
            have HPJ : Hid (Hid (absI a = absI a)) := rfl
            generalize hpj : partAt (absI a) l j = p at hxp hpb hpe hpz
            have HPP := hide hpj
            clear hpj
            generalize hxg : X.getD j 0 = x at hx hxp hts hpre2
            have HXG := hide hxg
            generalize hvg : l.getD j 0 = v at hv hpe hpz hv0 hv1 hmul hmul0
            have HVG := hide hvg
            clear hxg hvg
            have hx2 : (x = p ∧ 0 ≤ a) ∨ (x = -p ∧ a < 0) := by
              rcases hsg with ⟨h1, h2⟩ | ⟨h1, h2⟩
              · left; rw [h1] at hxp; exact ⟨by omega, h2⟩
              · right; rw [h1] at hxp; exact ⟨by omega, h2⟩
            have hmx : max x (-x) = p := max_neg hpb.1 (by rcases hx2 with h1 | h1; exact .inl h1.1; exact .inr h1.1)
            have hamx : Am x := by rcases hx2 with h1 | h1 <;> exact ⟨by omega, by omega⟩
            have hP0 : a = 0 → absI a = 0 := fun e => by rw [e]; rfl
            have hs1 : 0 < x → 0 < a := fun h1 => by
              rcases hx2 with h2 | h2
              · rcases Int.lt_or_le 0 a with h3 | h3
                · exact h3
                · have := hP0 (by omega); omega
              · omega
            have hs2 : x < 0 → a < 0 := fun h1 => by rcases hx2 with h2 | h2 <;> omega
            have hs3 : v = 0 → x = 0 := fun h1 => by have := hpz h1; rcases hx2 with h2 | h2 <;> omega
            have HC := hide hc; have HC3 := hide hc3
            have HS1' := hide hs1; have HS2' := hide hs2; have HS3' := hide hs3
            have Hx2 := hide hx2
            have HPE := hide hpe
            have HTS := hide hts
            have Hpre := hide (show Am (tot (X.take j)) ∧ Am (tot (X.take j) + x) from ⟨hpre1, hpre2⟩)
            clear hc hc3 hxp hpz hts hpre1 hpre2 hsg hs1 hs2 hs3 hP0 hx2 hbj hpe
            go_upto_region 23 with fail
            go_cut [100] (fun v wx => v = Value.bool false ∧ wx = wr)
            case first =>
              by_cases h1 : 0 < x
              · have h2 := unhide HS1' h1
                have h3 : ¬ x < 0 := by omega
                have h4 : v ≠ 0 := fun e => by have := unhide HS3' e; omega
                have h4b : (v == 0) = false := by simpa using h4
                go_wp2_with fail
                refine (check_ok x _ hamx).mono ?_; rintro e wy ⟨rfl, rfl⟩
                go_wp2_with fail
                go_meet
                exact ⟨by first | rfl | rw [decide_eq_false (by omega)], rfl⟩
              · by_cases h2 : x < 0
                · have h3 := unhide HS2' h2
                  have h4 : v ≠ 0 := fun e => by have := unhide HS3' e; omega
                  have h4b : (v == 0) = false := by simpa using h4
                  go_wp2_with fail
                  refine (check_ok x _ hamx).mono ?_; rintro e wy ⟨rfl, rfl⟩
                  go_wp2_with fail
                  go_meet
                  exact ⟨by first | rfl | rw [decide_eq_false (by omega)], rfl⟩
                · have hx0 : x = 0 := by omega
                  have hx0b : (x != 0) = false := by simp [hx0]
                  by_cases h4 : v = 0
                  · have h4b : (v == 0) = true := by simpa using h4
                    have HX0 := hide hx0
                    clear hx0 h4
                    go_wp2_with fail
                    refine (check_ok x _ hamx).mono ?_; rintro e wy ⟨rfl, rfl⟩
                    go_wp2_with fail
                    go_meet
                    exact ⟨rfl, rfl⟩
                  · have h4b : (v == 0) = false := by simpa using h4
                    have HX0 := hide hx0
                    clear hx0
                    go_wp2_with fail
                    refine (check_ok x _ hamx).mono ?_; rintro e wy ⟨rfl, rfl⟩
                    go_wp2_with fail
                    go_meet
                    exact ⟨rfl, rfl⟩
            case rest =>
              obtain ⟨rfl, hwc⟩ := hcut; subst wc
              go_upto_region 27 with fail
              go_cut [137] (fun v wx => v = Value.bool false ∧ wx = wr)
              case first =>
                have hq := unhide HPE
                have hTne : ¬ T = 0 := by omega
                obtain ⟨hq0, hq1⟩ := quo_bd hmul0 hmul.2 hT0
                have m3 := emod_t (b := T) hmul0
                have hr := rem_bd2 (x := absI a * v) hT0
                generalize absI a * v / T = Q at *
                have hwq : IntKind.i64.wrap (Q + 1) = Q + 1 := IntWalk.i64_in _ (by omega)
                by_cases h1 : p = Q + 1
                · have h2 := hq.2.2 h1
                  have hrb : (absI a * v % T == 0) = false := by simpa using h2
                  have h1b : (p == Q + 1) = true := by simpa using h1
                  have h3 : ¬ p < Q := by omega
                  have h4 : ¬ Q + 1 < p := by omega
                  have hwr : IntKind.i64.wrap (absI a * v % T) = absI a * v % T := IntWalk.i64_in _ (by have := tot_bd (unhide HW).2.2.1; have := unhide HT; have := unhide HN; omega)
                  clear hq h1 h2
                  go_wp2_with fail
                  go_meet
                  exact ⟨rfl, rfl⟩
                · have h1b : (p == Q + 1) = false := by simpa using h1
                  have h3 : ¬ p < Q := by omega
                  have h4 : ¬ Q + 1 < p := by omega
                  clear hq h1
                  go_wp2_with fail
                  go_meet
                  exact ⟨rfl, rfl⟩
              case rest =>
                obtain ⟨rfl, hwc⟩ := hcut; subst wc
                have hwt : IntKind.i64.wrap (tot (X.take j) + x) = tot (X.take j) + x := IntWalk.i64_in _ (by have := unhide Hpre; unfold Am at this; omega)
                go_upto_region 30 with fail
                have hn1 : (n : Int) ≤ 256 := by omega
                go_wp2_with fail
                go_loopw [143] (fun i wy => ∃ m : Nat, m ≤ n ∧ i = .int .i64 (m : Int) ∧ Below wx.heap.size wx wy) (fun i wy => n - (intOf i).toNat)
                case atStart => exact ⟨0, Nat.zero_le _, rfl, unhide HBJ⟩
                case round =>
                  obtain ⟨m, hm, rfl, hbm⟩ := hrel
                  have HBM := hide hbm
                  by_cases hlt3 : m < n
                  · have hml : m < l.length := (unhide HN) ▸ hlt3
                    have hmX : m < X.length := by rw [(unhide HP).len]; exact hml
                    have hItA := (unhide HI).keep (thenB (unhide HB2) hbm)
                    have hItX := (unhide HI3).keep hbm
                    have hv2 := row_at hItA hml
                    have hy := row_at hItX hmX
                    have hvj := row_at hItA (unhide HJL)
                    rw [unhide HVG] at hvj
                    have hyp := (unhide HP).at_ m hml
                    have hpb2 := part_le (absI_bd ha).1 (unhide HW) hml
                    have hmono := part_mono (absI_bd ha).1 (unhide HW) (unhide HJL) hml
                    have heq1 := part_equal (P := absI a) (unhide HJL) hml
                    have heq2 := part_equal (P := absI a) hml (unhide HJL)
                    rw [unhide HPP, unhide HVG] at hmono heq1 heq2
                    generalize partAt (absI a) l m = p2 at hyp hpb2 hmono heq1 heq2
                    generalize l.getD m 0 = v2 at hv2 hmono heq1 heq2
                    generalize X.getD m 0 = y at hy hyp
                    have hy2 : (y = p2 ∧ 0 ≤ a) ∨ (y = -p2 ∧ a < 0) := by
                      unfold sgn at hyp
                      split at hyp
                      · right; exact ⟨by omega, by assumption⟩
                      · left; exact ⟨by omega, by omega⟩
                    have hmy : max y (-y) = p2 := max_neg hpb2.1 (by rcases hy2 with h1 | h1; exact .inl h1.1; exact .inr h1.1)
                    have hwy : IntKind.i64.wrap (-y) = -y := IntWalk.i64_in _ (by rcases hy2 with h1 | h1 <;> omega)
                    have hwx : IntKind.i64.wrap (-x) = -x := IntWalk.i64_in _ (by rcases unhide Hx2 with h1 | h1 <;> omega)
                    have hwxy : IntKind.i64.wrap (x - y) = x - y := IntWalk.i64_in _ (by rcases unhide Hx2 with h1 | h1 <;> rcases hy2 with h2 | h2 <;> omega)
                    have hwyx : IntKind.i64.wrap (y - x) = y - x := IntWalk.i64_in _ (by rcases unhide Hx2 with h1 | h1 <;> rcases hy2 with h2 | h2 <;> omega)
                    have hd1 : v2 = v → ¬ 1 < x - y := fun e => by
                      have h1 := heq1 e; have h2 := heq2 e.symm
                      rcases unhide Hx2 with h3 | h3 <;> rcases hy2 with h4 | h4 <;> omega
                    have hd2 : v2 = v → ¬ 1 < y - x := fun e => by
                      have h1 := heq1 e; have h2 := heq2 e.symm
                      rcases unhide Hx2 with h3 | h3 <;> rcases hy2 with h4 | h4 <;> omega
                    have HMO := hide hmono; have HD1 := hide hd1; have HD2 := hide hd2
                    clear hyp hmono heq1 heq2 hy2 hd1 hd2 hItA hItX hbm hml hmX
                    go_upto_region 33 with fail
                    go_cut [190] (fun v wz => v = Value.bool false ∧ Below wr.heap.size wr wz)
                    case first =>
                      by_cases h1 : v2 < v
                      · have h2 := unhide HMO h1
                        have h3 : ¬ p < p2 := by omega
                        have h4 : (v == v2) = false := by simp; omega
                        go_quiet (fail)
                        go_wp2_with fail
                        go_meet
                        exact ⟨rfl, belowDrewN _ (Below.refl _ _)⟩
                      · by_cases h2 : v2 = v
                        · have h3 := unhide HD1 h2
                          have h4 := unhide HD2 h2
                          have h5 : (v == v2) = true := by simp; omega
                          clear h2
                          go_quiet (fail)
                          go_wp2_with fail
                          go_meet
                          exact ⟨rfl, belowDrewN _ (Below.refl _ _)⟩
                        · have h5 : (v == v2) = false := by simp; omega
                          go_quiet (fail)
                          go_wp2_with fail
                          go_meet
                          exact ⟨rfl, belowDrewN _ (Below.refl _ _)⟩
                    case rest =>
                      obtain ⟨rfl, hbz⟩ := hcut
                      have HBZ := hide ((unhide HBM).trans (hbz.mono (unhide HBM).size))
                      clear hbz
                      go_wp2_with fail
                      go_roundw
                      case rel => exact ⟨m + 1, by omega, by go_num, unhide HBZ⟩
                      case measure => simp [intOf]; omega
                  · clear hbm
                    go_wp2_with fail
                    go_roundw
                    case rel => exact ⟨j + 1, by omega, by go_num, by rw [unhide HTS], unhide HBM⟩
                    case measure => simp [intOf]; omega
          · have hsum := parts_sum (unhide HP).pre (fun k hk => by
              have hk2 : k < l.length := by rw [← (unhide HP).len]; exact hk
              have hpb := part_le (absI_bd ha).1 (unhide HW) hk2
              have hPb := absI_bd ha
              rw [(unhide HP).at_ k hk2]
              rcases sgn_cases a with h1 | h1 <;> rw [h1] <;> exact ⟨by omega, by omega⟩)
            have hXl : X.length = n := by rw [(unhide HP).len]; exact (unhide HN).symm
            have htk : tot (X.take j) = a := by rw [List.take_of_length_le (by omega)]; exact (unhide HP).sum
            have hsc := sum_any A3 c3 X wr ((unhide HI3).keep hbj) (by omega)
            rw [hsum.1, hsum.2, (unhide HP).sum, hXl] at hsc
            rw [htk]
            have HSC := hide hsc
            clear hsum hXl htk hsc hbj
            go_wp2_with fail
            refine (unhide HSC).mono ?_; rintro e wz ⟨rfl, rfl⟩
            go_wp2_with fail
            go_ret
            exact ⟨by simp, thenB (unhide HB2) (unhide HBJ)⟩
  · have hz : splitV a l = [] ∧ (splitE a l = 50 ∨ splitE a l = 1) := by
      unfold splitV splitE
      by_cases h1 : Am a
      · have h2 : ¬ Wok l := fun h2 => hok ⟨h1, h2⟩
        rw [if_pos h1, if_neg h2, if_pos h1, if_neg h2]
        exact ⟨rfl, .inr rfl⟩
      · rw [if_neg h1, if_neg h1]
        exact ⟨rfl, .inl rfl⟩
    obtain ⟨hz1, hz2⟩ := hz
    rw [hz1] at hs1
    obtain ⟨n, hn⟩ : ∃ n, n = l.length := ⟨_, rfl⟩
    rw [← hn] at hs1 h ⊢
    rcases hz2 with h5 | h5
    all_goals
      rw [h5] at hs1
      have HS1 := hide hs1
      clear hs1 hn hz1 h5 hok hS hE hI hl ha0
      go_enter Tryd.func6, Tryd.ntmps6
      go_wp2_with fail
      refine (unhide HS).mono ?_; rintro e w1 ⟨rfl, hb1⟩
      have HB1 := hide hb1
      clear hb1
      go_wp2_with fail
      refine ((unhide HS1) _ (unhide HB1)).mono ?_; rintro e w2 ⟨v2, rfl, hO2, hb2⟩
      obtain ⟨A3, c3, rfl, hI3, _, _⟩ := own_it hO2 (fun x hx => by cases hx)
      have HB2 := hide (thenB (unhide HB1) hb2)
      clear hO2 hI3 hb2
      rw [show ([] : List Int).length = 0 from rfl]
      go_wp2_with fail
      go_ret
      exact ⟨rfl, unhide HB2⟩
end Go.Proofs.YthbdhlcimgiemaaDoor
