/- Contracts over the program of money: the reference's Parse. -/
import Derived.Test.YthbdhlcimgiemaaDoorMonRText
namespace Go.Proofs.YthbdhlcimgiemaaDoor
set_option linter.unusedSimpArgs false
set_option linter.unusedVariables false
open Go.RowKit

/-- the digits of a text, as a number -/
def accR (n : Int) : List UInt8 → Int
  | [] => n
  | c :: r => if 48 ≤ c.toNat ∧ c.toNat ≤ 57 ∧ n ≤ 11258999068426240 then accR (10 * n + ((c.toNat : Int) - 48)) r else accR n r
theorem accR_digits (u : Nat) : ∀ (r : List UInt8), u ≤ 112589990684262409 → accR 0 (Lib.decDigits u ++ r) = accR u r := by
  induction u using Nat.strongRecOn with
  | _ u ih =>
    intro r hu
    by_cases h : u < 10
    · rw [Lib.decDigits_one h]
      simp only [List.cons_append, List.nil_append, accR, dig_toNat h]
      rw [if_pos (by omega)]
      congr 1; omega
    · rw [Lib.decDigits, dif_neg h, List.append_assoc, ih (u / 10) (by omega) _ (by omega)]
      have hm : u % 10 < 10 := Nat.mod_lt _ (by decide)
      simp only [List.cons_append, List.nil_append, accR, dig_toNat hm]
      rw [if_pos (by omega)]
      congr 1; omega
theorem accR_text {u : Nat} (h : u ≤ 1125899906842624) : accR 0 (textU u) = u := by
  unfold textU tailU
  rw [accR_digits _ _ (by omega)]
  have h1 : u % 100 / 10 < 10 := by omega
  have h2 : u % 10 < 10 := by omega
  simp only [accR, dig_toNat h1, dig_toNat h2]
  rw [if_neg (fun h => absurd h.1 (by decide)), if_pos (by omega), if_pos (by omega)]
  omega
theorem accR_minus (l : List UInt8) : accR 0 (45 :: l) = accR 0 l := by
  show (if _ then _ else _) = _
  rw [if_neg (by decide)]
/-- the number that the reference reads -/
def rpN (l : List UInt8) : Int := if l.head? = some 45 then -accR 0 l else accR 0 l
theorem rpN_text {n : Int} (h : Am n) : rpN (textB n) = n := by
  obtain ⟨h1, h2⟩ := h
  unfold rpN textB
  by_cases hn : n < 0
  · rw [if_pos hn, List.head?_cons, if_pos rfl, accR_minus, accR_text (by omega)]
    omega
  · rw [if_neg hn]
    have hh : (textU n.natAbs).head? ≠ some 45 := by
      unfold textU
      have hne := dd_ne (n.natAbs / 100)
      have hmem := dd_mem (n.natAbs / 100)
      cases hd : Lib.decDigits (n.natAbs / 100) with
      | nil => exact absurd hd hne
      | cons c r =>
        rw [hd] at hmem
        have hc := hmem c List.mem_cons_self
        intro e
        simp at e
        rw [e] at hc
        exact absurd hc.1 (by decide)
    rw [if_neg hh, accR_text (by omega)]
    omega
theorem textS_data (n : Int) : (textS n).data.toList = textB n := rfl
theorem parse_r (s : ByteArray) : parseR s = if Am (rpN s.data.toList) ∧ textS (rpN s.data.toList) = s then some (rpN s.data.toList) else none := by
  cases hp : parseR s with
  | none =>
    by_cases h : Am (rpN s.data.toList) ∧ textS (rpN s.data.toList) = s
    · rw [(parse_iff s _).2 h] at hp; cases hp
    · rw [if_neg h]
  | some n =>
    obtain ⟨h1, h2⟩ := (parse_iff s n).1 hp
    have e : rpN s.data.toList = n := by rw [← h2, textS_data]; exact rpN_text h1
    rw [e, if_pos ⟨h1, h2⟩]
theorem textS_small {n : Int} (h : Am n) : (textS n).size ≤ 30 := by
  obtain ⟨h1, h2⟩ := h
  have h3 : (Lib.decDigits (n.natAbs / 100)).length ≤ 21 := by
    have := Lib.itoa_length_le ((n.natAbs / 100 : Nat) : Int) (by omega) (by omega)
    rwa [Lib.itoa_nonneg] at this
  show (textB n).toArray.size ≤ _
  unfold textB textU tailU
  split <;> simp only [List.size_toArray, List.length_cons, List.length_append, List.length_nil] <;> omega
theorem parse_long {s : ByteArray} (h : 30 < s.size) : parseR s = none := by
  cases hp : parseR s with
  | none => rfl
  | some n =>
    obtain ⟨h1, h2⟩ := (parse_iff s n).1 hp
    have := textS_small h1
    rw [h2] at this
    omega
theorem accR_step {n : Int} {c : UInt8} {r : List UInt8} : accR n (c :: r) = if 48 ≤ c.toNat ∧ c.toNat ≤ 57 ∧ n ≤ 11258999068426240 then accR (10 * n + ((c.toNat : Int) - 48)) r else accR n r := rfl
theorem drop_bytes (s : ByteArray) (k : Nat) (h : k < s.size) : s.data.toList.drop k = s[k] :: s.data.toList.drop (k + 1) := by
  rw [List.drop_eq_getElem_cons (by simpa using h)]
  rfl

set_option maxRecDepth 100000 in
set_option maxHeartbeats 4000000 in
theorem rparse_any (s : ByteArray) (w : World) (hs : s.size ≤ 1000000) : Calls Tryd.prog 23 #[.string s] w fun e w' => e = .returned (.tuple #[.int .i64 (parseV s), .int .i64 (parseE s)]) ∧ w' = w := by
  by_cases hl : 30 < s.size
  · obtain ⟨e1, e2⟩ := parseR_none (parse_long hl)
    rw [e1, e2]
    clear e1 e2
    go_enter Tryd.func23, Tryd.ntmps23
    go_wp2_with fail
    go_ret2
    exact ⟨rfl, rfl⟩
  obtain ⟨l, hll⟩ : ∃ l, l = s.data.toList := ⟨_, rfl⟩
  have HL := hide hll
  have hres := parse_r s
  rw [← hll] at hres
  have HRES := hide hres
  obtain ⟨pv, hpv⟩ : ∃ q, q = parseV s := ⟨_, rfl⟩
  obtain ⟨pe, hpe⟩ : ∃ q, q = parseE s := ⟨_, rfl⟩
  rw [← hpv, ← hpe]
  have HPV := hide hpv; have HPE := hide hpe
  clear hll hres hpv hpe
  go_enter Tryd.func23, Tryd.ntmps23
  go_wp2_with fail
  go_loop [4, 5] (fun n i => ∃ (k : Nat) (m : Int), k ≤ s.size ∧ 0 ≤ m ∧ m ≤ 112589990684262409 ∧ accR 0 l = accR m (l.drop k) ∧ n = .int .i64 m ∧ i = .int .i64 (k : Int)) (fun _ i => s.size - (intOf i).toNat)
  case atStart => exact ⟨0, 0, Nat.zero_le _, by decide, by decide, by rw [List.drop_zero], rfl, rfl⟩
  case round =>
    obtain ⟨k, m, hk, hm0, hm1, ha, rfl, rfl⟩ := hrel
    by_cases hlt : k < s.size
    · have hd : l.drop k = s[k] :: l.drop (k + 1) := by rw [unhide HL]; exact drop_bytes s k hlt
      rw [hd, accR_step] at ha
      have hcb : (s[k].toNat : Int) ≤ 255 := by have := s[k].toNat_lt; omega
      have hc0 : (0 : Int) ≤ (s[k].toNat : Int) := Int.natCast_nonneg _
      by_cases h1 : (48 : Int) ≤ (s[k].toNat : Int)
      · by_cases h2 : (s[k].toNat : Int) ≤ 57
        · by_cases h3 : m ≤ 11258999068426240
          · rw [if_pos ⟨by omega, by omega, h3⟩] at ha
            have HA := hide ha
            have w1 : IntKind.i64.wrap (10 * m) = 10 * m := IntWalk.i64_in _ (by omega)
            clear ha hd
            go_wp2_with fail
            go_round
            case rel => exact ⟨k + 1, 10 * m + ((s[k].toNat : Int) - 48), by omega, by omega, by omega, unhide HA, rfl, by go_num⟩
            case measure => simp [intOf]; omega
          · rw [if_neg (fun h => h3 h.2.2)] at ha
            have HA := hide ha
            clear ha hd
            go_wp2_with fail
            go_round
            case rel => exact ⟨k + 1, m, by omega, by omega, by omega, unhide HA, rfl, by go_num⟩
            case measure => simp [intOf]; omega
        · rw [if_neg (fun h => h2 (by omega))] at ha
          have HA := hide ha
          clear ha hd
          go_wp2_with fail
          go_round
          case rel => exact ⟨k + 1, m, by omega, by omega, by omega, unhide HA, rfl, by go_num⟩
          case measure => simp [intOf]; omega
      · rw [if_neg (fun h => h1 (by omega))] at ha
        have HA := hide ha
        clear ha hd
        go_wp2_with fail
        go_round
        case rel => exact ⟨k + 1, m, by omega, by omega, by omega, unhide HA, rfl, by go_num⟩
        case measure => simp [intOf]; omega
    · have hacc : accR 0 l = m := by
        rw [ha, List.drop_of_length_le (by rw [unhide HL]; simp; omega)]; rfl
      have HACC := hide hacc
      clear ha hacc
      have hr := unhide HRES
      rcases Nat.eq_zero_or_pos s.size with h0 | h0
      · have hrp : rpN l = m := by
          have e : l = [] := by rw [unhide HL]; exact List.length_eq_zero_iff.1 (by simpa using h0)
          rw [← unhide HACC, e]; rfl
        rw [hrp] at hr
        clear hrp
        by_cases hv : Am (m)
        · by_cases ht : textS (m) = s
          · rw [if_pos ⟨hv, ht⟩] at hr
            obtain ⟨e1, e2⟩ := parseR_some hr
            rw [← unhide HPV] at e1
            rw [← unhide HPE] at e2
            have E1 := hide e1; have E2 := hide e2
            have HTE := hide ht
            clear e1 e2 hr ht
            go_wp2_with fail
            refine (rtext_any _ _ hv).mono ?_; rintro e w' ⟨rfl, rfl⟩
            rw [unhide HTE]
            go_wp2_with fail
            go_ret2
            exact ⟨ret2I (unhide E1).symm (unhide E2).symm, rfl⟩
          · rw [if_neg (fun h => ht h.2)] at hr
            obtain ⟨e1, e2⟩ := parseR_none hr
            rw [← unhide HPV] at e1
            rw [← unhide HPE] at e2
            have E1 := hide e1; have E2 := hide e2
            have htn := hide (str_ne ht)
            clear e1 e2 hr ht
            go_wp2_with fail
            refine (rtext_any _ _ hv).mono ?_; rintro e w' ⟨rfl, rfl⟩
            have htn := unhide htn
            generalize textS (m) = tt at htn
            go_wp2_with fail
            go_ret2
            exact ⟨ret2I (unhide E1).symm (unhide E2).symm, rfl⟩
        · rw [if_neg (fun h => hv h.1)] at hr
          obtain ⟨e1, e2⟩ := parseR_none hr
          rw [← unhide HPV] at e1
          rw [← unhide HPE] at e2
          have E1 := hide e1; have E2 := hide e2
          clear e1 e2 hr
          go_wp2_with fail
          refine (rtext_no _ _ hv).mono ?_; rintro e w' ⟨rfl, rfl⟩
          go_wp2_with fail
          go_ret2
          exact ⟨ret2I (unhide E1).symm (unhide E2).symm, rfl⟩
      · have hl0 : l = s[0] :: l.drop 1 := by
          have := drop_bytes s 0 h0
          rw [← unhide HL, List.drop_zero] at this
          exact this
        by_cases h45 : s[0].toNat = 45
        · have hrp : rpN l = -m := by
            unfold rpN
            rw [hl0, List.head?_cons, if_pos (by rw [UInt8.toNat_inj.1 (show s[0].toNat = (45 : UInt8).toNat from h45)]), ← hl0, unhide HACC]
          rw [hrp] at hr
          have h45b : ((s[0].toNat : Int) == 45) = true := by simp; omega
          have hwn : IntKind.i64.wrap (-m) = -m := IntWalk.i64_in _ (by omega)
          clear hrp hl0 h45
          by_cases hv : Am (-m)
          · by_cases ht : textS (-m) = s
            · rw [if_pos ⟨hv, ht⟩] at hr
              obtain ⟨e1, e2⟩ := parseR_some hr
              rw [← unhide HPV] at e1
              rw [← unhide HPE] at e2
              have E1 := hide e1; have E2 := hide e2
              have HTE := hide ht
              clear e1 e2 hr ht
              go_wp2_with fail
              refine (rtext_any _ _ hv).mono ?_; rintro e w' ⟨rfl, rfl⟩
              rw [unhide HTE]
              go_wp2_with fail
              go_ret2
              exact ⟨ret2I (unhide E1).symm (unhide E2).symm, rfl⟩
            · rw [if_neg (fun h => ht h.2)] at hr
              obtain ⟨e1, e2⟩ := parseR_none hr
              rw [← unhide HPV] at e1
              rw [← unhide HPE] at e2
              have E1 := hide e1; have E2 := hide e2
              have htn := hide (str_ne ht)
              clear e1 e2 hr ht
              go_wp2_with fail
              refine (rtext_any _ _ hv).mono ?_; rintro e w' ⟨rfl, rfl⟩
              have htn := unhide htn
              generalize textS (-m) = tt at htn
              go_wp2_with fail
              go_ret2
              exact ⟨ret2I (unhide E1).symm (unhide E2).symm, rfl⟩
          · rw [if_neg (fun h => hv h.1)] at hr
            obtain ⟨e1, e2⟩ := parseR_none hr
            rw [← unhide HPV] at e1
            rw [← unhide HPE] at e2
            have E1 := hide e1; have E2 := hide e2
            clear e1 e2 hr
            go_wp2_with fail
            refine (rtext_no _ _ hv).mono ?_; rintro e w' ⟨rfl, rfl⟩
            go_wp2_with fail
            go_ret2
            exact ⟨ret2I (unhide E1).symm (unhide E2).symm, rfl⟩
        · have hrp : rpN l = m := by
            unfold rpN
            rw [hl0, List.head?_cons, if_neg (fun e => h45 (by injection e with e; rw [e]; rfl)), ← hl0, unhide HACC]
          rw [hrp] at hr
          have h45b : ((s[0].toNat : Int) == 45) = false := by simp; omega
          clear hrp hl0 h45
          by_cases hv : Am (m)
          · by_cases ht : textS (m) = s
            · rw [if_pos ⟨hv, ht⟩] at hr
              obtain ⟨e1, e2⟩ := parseR_some hr
              rw [← unhide HPV] at e1
              rw [← unhide HPE] at e2
              have E1 := hide e1; have E2 := hide e2
              have HTE := hide ht
              clear e1 e2 hr ht
              go_wp2_with fail
              refine (rtext_any _ _ hv).mono ?_; rintro e w' ⟨rfl, rfl⟩
              rw [unhide HTE]
              go_wp2_with fail
              go_ret2
              exact ⟨ret2I (unhide E1).symm (unhide E2).symm, rfl⟩
            · rw [if_neg (fun h => ht h.2)] at hr
              obtain ⟨e1, e2⟩ := parseR_none hr
              rw [← unhide HPV] at e1
              rw [← unhide HPE] at e2
              have E1 := hide e1; have E2 := hide e2
              have htn := hide (str_ne ht)
              clear e1 e2 hr ht
              go_wp2_with fail
              refine (rtext_any _ _ hv).mono ?_; rintro e w' ⟨rfl, rfl⟩
              have htn := unhide htn
              generalize textS (m) = tt at htn
              go_wp2_with fail
              go_ret2
              exact ⟨ret2I (unhide E1).symm (unhide E2).symm, rfl⟩
          · rw [if_neg (fun h => hv h.1)] at hr
            obtain ⟨e1, e2⟩ := parseR_none hr
            rw [← unhide HPV] at e1
            rw [← unhide HPE] at e2
            have E1 := hide e1; have E2 := hide e2
            clear e1 e2 hr
            go_wp2_with fail
            refine (rtext_no _ _ hv).mono ?_; rintro e w' ⟨rfl, rfl⟩
            go_wp2_with fail
            go_ret2
            exact ⟨ret2I (unhide E1).symm (unhide E2).symm, rfl⟩
end Go.Proofs.YthbdhlcimgiemaaDoor
