/- The law MoneyScales returns true for all amounts, weights and factors. -/
import Derived.Test.YthbdhlcimgiemaaDoorMonScale
namespace Go.Proofs.YthbdhlcimgiemaaDoor
set_option linter.unusedSimpArgs false
set_option linter.unusedVariables false
open Go.RowKit Go.LawClose

theorem splitV_i64 (a : Int) (ws : List Int) : ∀ x ∈ splitV a ws, I64 x := by
  intro x hx
  by_cases ha : Am a
  · by_cases hW : Wok ws
    · rw [splitV_ok ha hW] at hx
      obtain ⟨y, hy, rfl⟩ := List.mem_map.1 hx
      have h1 := splitP_mem (absI_bd ha).1 hW hy
      have h2 := (absI_bd ha).2
      rcases sgn_cases a with h | h <;> rw [h] <;> exact ⟨by omega, by omega⟩
    · unfold splitV at hx; rw [if_pos ha, if_neg hW] at hx; cases hx
  · unfold splitV at hx; rw [if_neg ha] at hx; cases hx
theorem splitV_len (a : Int) (ws : List Int) : (splitV a ws).length ≤ ws.length := by
  unfold splitV
  split
  · split
    · rw [List.length_map, splitP_len]; exact Nat.le_refl _
    · exact Nat.zero_le _
  · exact Nat.zero_le _
theorem take_snocG {l : List Int} {k : Nat} (h : k < l.length) : l.take (k + 1) = l.take k ++ [l.getD k 0] := by
  rw [List.take_succ_eq_append_getElem h, List.getD_eq_getElem?_getD, List.getElem?_eq_getElem h]
  rfl
/-- where the first loop has come to -/
structure RelS (K : Int) (l : List Int) (w : World) (j : Nat) (r : Value) (wr : World) : Prop where
  own : OwnI wr w.heap.size r ((l.take j).map fun x => x * K)
  bd : ∀ x ∈ l.take j, 0 ≤ x ∧ x * K ≤ 1000
  bel : Below w.heap.size w wr

set_option maxRecDepth 100000 in
set_option maxHeartbeats 4000000 in
theorem scales_any (a : Int) (A : Option Addr) (c : Nat) (l : List Int) (t : Int) (w : World) (ha : I64 a) (hI : It w A l) (hl : l.length ≤ 140737488351232) (ht0 : 0 ≤ t) (ht1 : t ≤ 255) (hE : Env w) :
    Calls Tryd.prog 7 #[.int .i64 a, .slice A l.length c, .int .u8 t] w (LawOk w) := by
  have hS := sane_any w hE
  have HS := hide hS
  by_cases h : (256 : Int) < (l.length : Int)
  · clear hI hS hE
    generalize l.length = n at *
    go_enter Tryd.func7, Tryd.ntmps7
    go_wp2_with fail
    refine (unhide HS).mono ?_; rintro e w1 ⟨rfl, hb1⟩
    have HB1 := hide hb1
    clear hb1
    go_wp2_with fail
    go_ret
    exact ⟨rfl, unhide HB1⟩
  by_cases h2 : a < -1125899906842624
  · clear hI hS hE
    generalize l.length = n at *
    go_enter Tryd.func7, Tryd.ntmps7
    go_wp2_with fail
    refine (unhide HS).mono ?_; rintro e w1 ⟨rfl, hb1⟩
    have HB1 := hide hb1
    clear hb1
    go_wp2_with fail
    go_ret
    exact ⟨rfl, unhide HB1⟩
  obtain ⟨n, hn⟩ : ∃ n, n = l.length := ⟨_, rfl⟩
  have hn256 : n ≤ 256 := by omega
  have h64 := ha.2
  have hwneg : IntKind.i64.wrap (-a) = -a := IntWalk.i64_in _ (by omega)
  have hwt : IntKind.i64.wrap t = t := IntWalk.i64_in _ (by omega)
  have hs1 := fun (b : Int) W (hB : Below w.heap.size w W) => split_any A c b l W (hI.keep hB) (by omega)
  rw [← hn] at hs1 h ⊢
  have HS1 := hide hs1
  have HN := hide hn
  have HI := hide hI
  obtain ⟨i0, hi, hz0, hz1, hz2⟩ := info_parts infoInt
  obtain ⟨K, hK⟩ : ∃ K, K = 1 + t % 10 := ⟨_, rfl⟩
  have hK1 : 1 ≤ K := by omega
  have hK2 : K ≤ 10 := by omega
  clear hs1 hn hI hS hE hl ha
  go_enter Tryd.func7, Tryd.ntmps7
  go_wp2_with fail
  refine (unhide HS).mono ?_; rintro e w1 ⟨rfl, hb1⟩
  have HB1 := hide hb1
  clear hb1
  go_upto_region 6 with fail
  rw [← hK]
  clear hK
  have hw1 := HB1
  go_wp2_with fail
  go_loopw [8, 33] (fun r i wr => ∃ j : Nat, j ≤ n ∧ i = .int .i64 (j : Int) ∧ RelS K l w1 j r wr) (fun r i wr => n - (intOf i).toNat)
  case atStart => exact ⟨0, Nat.zero_le _, rfl, ⟨World.ownsRow_nil _ _ _ _, fun x hx => by simp at hx, Below.refl _ _⟩⟩
  case round =>
    obtain ⟨j, hj, rfl, hR⟩ := hrel
    have HR := hide hR
    have hb := hR.bel
    have HBW := hide (thenB (unhide HB1) hb)
    by_cases hlt : j < n
    · have hjl : j < l.length := by have := unhide HN; omega
      obtain ⟨b, o, rfl, hc⟩ := ((unhide HI).keep (unhide HBW)).at_ (List.ne_nil_of_length_pos (by omega))
      have hcj := hc j hjl
      have hts := take_snocG hjl
      have hbd := hR.bd
      have hrow := hR.own
      generalize l.getD j 0 = x at hcj hts
      by_cases hx0 : x < 0
      · clear hc hts hbd hrow hR hjl hb
        go_wp2_with fail
        go_ret
        exact ⟨rfl, unhide HBW⟩
      · have hq := ediv_t (a := 1000) (b := K) (by decide)
        have hKne : ¬ K = 0 := by omega
        have hKb : (K == 0) = false := by simpa using hKne
        have hq1 : 0 ≤ 1000 / K ∧ 1000 / K ≤ 1000 := ⟨Int.ediv_nonneg (by decide) (by omega), Int.ediv_le_self _ (by decide)⟩
        have hmle : x ≤ 1000 / K → x * K ≤ 1000 := fun hh => by
          have h1 := Int.mul_le_mul_of_nonneg_right hh (show 0 ≤ K by omega)
          have h2 := Int.ediv_mul_le 1000 hKne
          omega
        have hwq : IntKind.i64.wrap (1000 / K) = 1000 / K := IntWalk.i64_in _ (by omega)
        have HML := hide hmle
        clear hmle
        generalize 1000 / K = Q at *
        by_cases hxQ : Q < x
        · clear hc hts hbd hrow hR hjl hb
          go_wp2_with fail
          go_ret
          exact ⟨rfl, unhide HBW⟩
        · have hmle2 := unhide HML (by omega)
          have hmn : 0 ≤ x * K := Int.mul_nonneg (by omega) (by omega)
          have hwm : IntKind.i64.wrap (x * K) = x * K := IntWalk.i64_in _ (by omega)
          have HX : Hid (∀ y ∈ l.take (j + 1), 0 ≤ y ∧ y * K ≤ 1000) := by
            intro y hy
            rw [hts] at hy
            rcases List.mem_append.1 hy with hy | hy
            · exact hbd y hy
            · rw [List.mem_singleton.1 hy]; exact ⟨by omega, hmle2⟩
          have HTS : Hid ((l.take (j + 1)).map (fun x => x * K) = (l.take j).map (fun x => x * K) ++ [x * K]) := by
            rw [hts, List.map_append]; rfl
          have hlen : ((l.take j).map fun x => x * K).length = j := by rw [List.length_map, List.length_take]; omega
          unfold OwnI at hrow
          rw [hlen] at hrow
          obtain ⟨C, hC⟩ : ∃ C, C = ((l.take j).map fun x => x * K).map (Value.int .i64) := ⟨_, rfl⟩
          rw [← hC] at hrow
          have HC := hide hC
          have HROW := hide hrow
          have HLN := hide hlen
          have hsz := hb.size
          clear hc hts hbd hrow hR hjl hlen hC
          go_wp2_with (at_builtin; refine wpList_append_own _ rfl _ _ 22 rfl w1.heap.size 3 i0 (.int .i64 0) 1 8 Tryd.underlying22 hi hz0 hz1 hz2 rfl (by decide) _ _ _ rfl (World.ownsRow.alloc (unhide HROW) _) ⟨_, 0, none⟩ 1 1 [.int .i64 (x * K)] rfl rfl (cell_one_new _ _ _) (fun u hu => by rw [List.mem_singleton.1 hu]; rfl) (by unfold maxLen; omega) (by omega) (by first | omega | (simp; omega)) ?_)
          intro v' w3 hown hgrow _
          have HO : Hid (OwnI w3 w1.heap.size v' ((l.take (j + 1)).map fun x => x * K)) := by
            unfold Hid OwnI
            rw [unhide HTS, List.length_append, List.map_append, unhide HLN, ← unhide HC]
            exact hown
          have HB3 := hide ((hb.alloc hb.size _).grown hgrow (by simp; omega) (fun k hk => ((unhide HROW).lt k hk).1))
          clear hown hgrow
          go_wp2_with fail
          go_roundw
          case rel => exact ⟨j + 1, by omega, by go_num, ⟨unhide HO, unhide HX, unhide HB3⟩⟩
          case measure => simp [intOf]; omega
    · obtain rfl : j = n := by omega
      have hjl := unhide HN
      have hbd := hR.bd
      have hrow := hR.own
      rw [List.take_of_length_le (by omega)] at hbd hrow
      have hsc := split_scale hK1 a hbd
      obtain ⟨hne, hnl, hng⟩ := split_neg a l
      obtain ⟨A2, c2, rfl, hI2, _, _⟩ := own_it hrow (fun y hy => by
        obtain ⟨x, hx, rfl⟩ := List.mem_map.1 hy
        obtain ⟨h1, h2⟩ := hbd x hx
        have h3 : 0 ≤ x * K := Int.mul_nonneg h1 (by omega)
        exact ⟨by omega, by omega⟩)
      have hml : (l.map fun x => x * K).length = j := by rw [List.length_map]; exact hjl.symm
      have hs2 := fun W (hB : Below wr.heap.size wr W) => split_any A2 c2 a (l.map fun x => x * K) W (hI2.keep hB) (by omega)
      unfold SplitIs at hs2
      rw [hsc.1, hsc.2, hml] at hs2
      rw [hml]
      have HS2 := hide hs2
      have hs1 := unhide HS1
      unfold SplitIs at hs1
      have HSA := hide (fun W hB => hs1 a W hB)
      have hsb := fun W hB => hs1 (-a) W hB
      rw [hne] at hsb
      have HSB := hide hsb
      have hxl : (splitV a l).length ≤ 1000000 := Nat.le_trans (splitV_len a l) (by omega)
      have h64X := splitV_i64 a l
      have h64Y := splitV_i64 (-a) l
      generalize splitV a l = X at *
      generalize splitV (-a) l = Y at *
      generalize splitE a l = E at *
      have HXL := hide hxl
      have HNG := hide hng
      have HNL := hide hnl
      have H64X := hide h64X
      have H64Y := hide h64Y
      clear hjl hbd hrow hsc hne hnl hng hI2 hml hs2 hs1 hsb h64X h64Y hxl hR hb hlt hj HS1 hwt
      go_wp2_with fail
      refine ((unhide HSA) _ (unhide HBW)).mono ?_; rintro e w2 ⟨v2, rfl, hO2, hb2⟩
      obtain ⟨A3, c3, rfl, hI3, _, _⟩ := own_it hO2 (unhide H64X)
      obtain ⟨q, hq⟩ : ∃ q, q = X.length := ⟨_, rfl⟩
      rw [← hq]
      have HQ := hide hq
      have hqb : q ≤ 1000000 := by rw [hq]; exact unhide HXL
      have HI3 := hide hI3
      have HB2 := hide (thenB (unhide HBW) hb2)
      have HX2 := hide hb2
      clear hO2 hI3 hb2 hq
      go_wp2_with fail
      refine ((unhide HS2) _ (unhide HX2)).mono ?_; rintro e w3 ⟨v3, rfl, hO3, hb3⟩
      obtain ⟨A4, c4, rfl, hI4, _, _⟩ := own_it hO3 (unhide H64X)
      rw [← unhide HQ]
      have HI33 := hide ((unhide HI3).keep hb3)
      have HI4 := hide hI4
      have HB3 := hide (thenB (unhide HB2) hb3)
      clear hO3 hI4 hb3
      go_wp2_with fail
      refine ((unhide HSB) _ (unhide HB3)).mono ?_; rintro e w4 ⟨v4, rfl, hO4, hb4⟩
      obtain ⟨A5, c5, rfl, hI5, _, _⟩ := own_it hO4 (unhide H64Y)
      rw [show Y.length = q by rw [unhide HQ]; exact unhide HNL]
      have HI34 := hide ((unhide HI33).keep hb4)
      have HI44 := hide ((unhide HI4).keep hb4)
      have HI5 := hide hI5
      have HB4 := hide (thenB (unhide HB3) hb4)
      have hsame := same_eq A3 A4 c3 c4 X w4 (unhide HI34) (unhide HI44) (unhide HXL)
      rw [← unhide HQ] at hsame
      have HSAME := hide hsame
      clear hO4 hI5 hb4 hsame
      go_wp2_with fail
      refine (unhide HSAME).mono ?_; rintro e w5 ⟨rfl, hb5⟩
      have HI35 := hide ((unhide HI34).keep hb5)
      have HI55 := hide ((unhide HI5).keep hb5)
      have HB5 := hide (thenB (unhide HB4) hb5)
      clear hb5
      go_wp2_with fail
      go_loopw [94] (fun i wr => ∃ k : Nat, k ≤ q ∧ i = .int .i64 (k : Int) ∧ Below w5.heap.size w5 wr) (fun i wr => q - (intOf i).toNat)
      case atStart => exact ⟨0, Nat.zero_le _, rfl, Below.refl _ _⟩
      case round =>
        obtain ⟨k, hk, rfl, hbk⟩ := hrel
        have HBK := hide hbk
        by_cases hlt : k < q
        · have hkq : k < X.length := by have := unhide HQ; omega
          have hkY : k < Y.length := (unhide HNL).symm ▸ hkq
          obtain ⟨b1, o1, rfl, hc1⟩ := ((unhide HI35).keep hbk).at_ (List.ne_nil_of_length_pos (Nat.lt_of_le_of_lt (Nat.zero_le _) hkq))
          obtain ⟨b2, o2, rfl, hc2⟩ := ((unhide HI55).keep hbk).at_ (List.ne_nil_of_length_pos (Nat.lt_of_le_of_lt (Nat.zero_le _) hkY))
          have hx := hc1 k hkq
          have hy := hc2 k hkY
          have hxy := unhide HNG k hkq
          have hx64 := unhide H64X (X.getD k 0) (getD_mem hkq)
          generalize X.getD k 0 = x at hx hxy hx64
          generalize Y.getD k 0 = y at hy hxy
          have hwy : IntKind.i64.wrap (-y) = x := by
            rw [hxy] at hx64 ⊢
            exact IntWalk.i64_in _ ⟨hx64.1, hx64.2⟩
          clear hxy hx64 hc1 hc2 hkq hkY hbk
          go_wp2_with fail
          go_quiet (fail)
          go_wp2_with fail
          go_roundw
          case rel => exact ⟨k + 1, by omega, by go_num, belowDrewN _ (unhide HBK)⟩
          case measure => simp [intOf]; omega
        · clear hbk
          go_wp2_with fail
          go_ret
          exact ⟨rfl, thenB (unhide HB5) (unhide HBK)⟩
end Go.Proofs.YthbdhlcimgiemaaDoor
