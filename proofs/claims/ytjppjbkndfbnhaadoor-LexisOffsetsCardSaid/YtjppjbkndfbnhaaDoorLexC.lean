/- Contracts over the program of lexis: the length of a sign, what stands within quotes, quoted texts. -/
import Derived.Test.YtjppjbkndfbnhaaDoorLexB
import Derived.Laws.OwnMore
import Derived.Lib.SlBytesRow
namespace Go.Proofs.YtjppjbkndfbnhaaDoor
set_option linter.unusedSimpArgs false
set_option linter.unusedVariables false
open Go.RowKit

theorem signLen_any (s : ByteArray) (w : World) (hT : Tab w) : Calls Tryd.prog 43 #[.string s] w fun e w' => e = .returned (.int .i64 (if (decide (1 < s.size) && Lx.sgnP ((L s).take 2)) = true then 2 else 1)) ∧ w' = w := by
  by_cases h : 1 < s.size
  · rw [decide_eq_true h, Bool.true_and]
    have hc := sign_any (s.extract 0 2) w hT
    rw [L_extract, List.drop_zero] at hc
    cases hb : Lx.sgnP ((L s).take 2)
    · rw [hb] at hc
      have HC := hide hc
      clear hc hb hT
      go_enter Tryd.func43, Tryd.ntmps43
      go_wp2_with fail
      refine (unhide HC).mono ?_; rintro e w' ⟨rfl, rfl⟩
      go_wp2_with fail
      go_ret
      exact ⟨rfl, rfl⟩
    · rw [hb] at hc
      have HC := hide hc
      clear hc hb hT
      go_enter Tryd.func43, Tryd.ntmps43
      go_wp2_with fail
      refine (unhide HC).mono ?_; rintro e w' ⟨rfl, rfl⟩
      go_wp2_with fail
      go_ret
      exact ⟨rfl, rfl⟩
  · rw [decide_eq_false h, Bool.false_and]
    clear hT
    go_enter Tryd.func43, Tryd.ntmps43
    go_wp2_with fail
    go_ret
    exact ⟨rfl, rfl⟩

theorem pre_any (s p : ByteArray) (b : Bool) (h : (L p).isPrefixOf (L s) = b) (w : World) : Calls Tryd.prog 77 #[.string s, .string p] w fun e w' => e = .returned (.bool b) ∧ w' = w := by
  have := Tryd.strings_HasPrefix s p w
  unfold Lib.hasPrefix at this
  rw [show p.data.toList.isPrefixOf s.data.toList = b from h] at this
  exact this
theorem pre_two (a b c d : Lx.B) (r : List Lx.B) : ([a, b] : List Lx.B).isPrefixOf (c :: d :: r) = (a == c && b == d) := by simp [List.isPrefixOf]
theorem pre_none (a b c : Lx.B) : ([a, b] : List Lx.B).isPrefixOf [c] = false := by simp [List.isPrefixOf]
theorem escP_cons (d : Lx.B) (r : List Lx.B) : Lx.escP (d :: r) = if d = 110 then (10, 2) else if d = 34 ∨ d = 92 then (d, 2) else (0, 0) := rfl
/-- how meant ends -/
def MeantIs (x : Lx.B × Nat) (w : World) (e : Ending) (w' : World) : Prop := e = .returned (.tuple #[.int .u8 (x.1.toNat : Int), .int .i64 (x.2 : Int)]) ∧ w' = w
theorem L_cons (s : ByteArray) (hp : 0 < s.size) : L s = s[0] :: (L s).drop 1 := by
  have := L_drop s 0 hp
  rwa [List.drop_zero] at this
theorem toNat_ne {c : Lx.B} {n : Nat} (hn : n < 256) (h : c ≠ UInt8.ofNat n) : ((c.toNat : Int) != (n : Int)) = true := by
  rw [bne_iff_ne]
  intro e
  exact h ((Lx.eq_byte hn).2 (by omega))
set_option maxHeartbeats 1000000 in
theorem meant_any (s : ByteArray) (hp : 0 < s.size) (w : World) : Calls Tryd.prog 72 #[.string s] w (MeantIs (Lx.meantP (L s)) w) := by
  unfold MeantIs
  have hv := visible_any (s[0]'hp) w
  cases hb : Lx.vis (s[0]'hp)
  · have hm : Lx.meantP (L s) = (0, 0) := by
      rw [L_cons s hp]
      show Lx.meantC _ _ = _
      unfold Lx.meantC
      rw [if_pos hb]
    rw [hm]
    rw [hb] at hv
    have HV := hide hv
    clear hb hv hm
    go_enter Tryd.func72, Tryd.ntmps72
    go_wp2_with fail
    refine (unhide HV).mono ?_; rintro e w' ⟨rfl, rfl⟩
    go_wp2_with fail
    go_ret2
    exact ⟨rfl, rfl⟩
  · have hm0 : Lx.meantP (L s) = if s[0]'hp ≠ 92 then (s[0]'hp, 1) else Lx.escP ((L s).drop 1) := by
      rw [L_cons s hp]
      show Lx.meantC _ _ = _
      unfold Lx.meantC
      rw [if_neg (by rw [hb]; decide)]
      rfl
    rw [hb] at hv
    have HV := hide hv
    by_cases h92 : s[0]'hp = 92
    · rw [if_neg (by rw [h92]; decide)] at hm0
      have h92n : (((s[0]'hp).toNat : Int) != 92) = false := by rw [h92]; rfl
      have hl0 : L s = 92 :: (L s).drop 1 := by rw [← h92]; exact L_cons s hp
      by_cases h2 : 1 < s.size
      · have hd1 := L_drop s 1 h2
        by_cases e1 : s[1] = 110
        · have p1 := pre_any s ⟨#[92, 110]⟩ true (by rw [hl0, hd1, e1]; rfl) w
          have hm : Lx.meantP (L s) = (10, 2) := by rw [hm0, hd1, e1]; rfl
          rw [hm]
          have P1 := hide p1
          clear hb hv hm hm0 h92 hl0 hd1 e1 p1
          go_enter Tryd.func72, Tryd.ntmps72
          go_wp2_with fail
          refine (unhide HV).mono ?_; rintro e w' ⟨rfl, rfl⟩
          go_wp2_with fail
          refine (unhide P1).mono ?_; rintro e w' ⟨rfl, rfl⟩
          go_wp2_with fail
          go_ret2
          exact ⟨rfl, rfl⟩
        · have p1 := pre_any s ⟨#[92, 110]⟩ false (by rw [hl0, hd1]; show ([92, 110] : List Lx.B).isPrefixOf _ = _; rw [pre_two]; simp; exact fun e => e1 e.symm) w
          by_cases e2 : s[1] = 34
          · have p2 := pre_any s ⟨#[92, 34]⟩ true (by rw [hl0, hd1, e2]; rfl) w
            have hm : Lx.meantP (L s) = (s[1]'h2, 2) := by rw [hm0, hd1]; rw [escP_cons, if_neg e1, if_pos (.inl e2)]
            rw [hm]
            have P1 := hide p1; have P2 := hide p2
            clear hb hv hm hm0 h92 hl0 hd1 e1 p1 p2 e2
            go_enter Tryd.func72, Tryd.ntmps72
            go_wp2_with fail
            refine (unhide HV).mono ?_; rintro e w' ⟨rfl, rfl⟩
            go_wp2_with fail
            refine (unhide P1).mono ?_; rintro e w' ⟨rfl, rfl⟩
            go_wp2_with fail
            refine (unhide P2).mono ?_; rintro e w' ⟨rfl, rfl⟩
            go_wp2_with fail
            go_ret2
            exact ⟨rfl, rfl⟩
          · have p2 := pre_any s ⟨#[92, 34]⟩ false (by rw [hl0, hd1]; show ([92, 34] : List Lx.B).isPrefixOf _ = _; rw [pre_two]; simp; exact fun e => e2 e.symm) w
            by_cases e3 : s[1] = 92
            · have p3 := pre_any s ⟨#[92, 92]⟩ true (by rw [hl0, hd1, e3]; rfl) w
              have hm : Lx.meantP (L s) = (s[1]'h2, 2) := by rw [hm0, hd1]; rw [escP_cons, if_neg e1, if_pos (.inr e3)]
              rw [hm]
              have P1 := hide p1; have P2 := hide p2; have P3 := hide p3
              clear hb hv hm hm0 h92 hl0 hd1 e1 p1 p2 e2 e3 p3
              go_enter Tryd.func72, Tryd.ntmps72
              go_wp2_with fail
              refine (unhide HV).mono ?_; rintro e w' ⟨rfl, rfl⟩
              go_wp2_with fail
              refine (unhide P1).mono ?_; rintro e w' ⟨rfl, rfl⟩
              go_wp2_with fail
              refine (unhide P2).mono ?_; rintro e w' ⟨rfl, rfl⟩
              go_wp2_with fail
              refine (unhide P3).mono ?_; rintro e w' ⟨rfl, rfl⟩
              go_wp2_with fail
              go_ret2
              exact ⟨rfl, rfl⟩
            · have p3 := pre_any s ⟨#[92, 92]⟩ false (by rw [hl0, hd1]; show ([92, 92] : List Lx.B).isPrefixOf _ = _; rw [pre_two]; simp; exact fun e => e3 e.symm) w
              have hm : Lx.meantP (L s) = (0, 0) := by rw [hm0, hd1]; rw [escP_cons, if_neg e1, if_neg (fun e => e.elim e2 e3)]
              rw [hm]
              have P1 := hide p1; have P2 := hide p2; have P3 := hide p3
              clear hb hv hm hm0 h92 hl0 hd1 e1 p1 p2 e2 e3 p3
              go_enter Tryd.func72, Tryd.ntmps72
              go_wp2_with fail
              refine (unhide HV).mono ?_; rintro e w' ⟨rfl, rfl⟩
              go_wp2_with fail
              refine (unhide P1).mono ?_; rintro e w' ⟨rfl, rfl⟩
              go_wp2_with fail
              refine (unhide P2).mono ?_; rintro e w' ⟨rfl, rfl⟩
              go_wp2_with fail
              refine (unhide P3).mono ?_; rintro e w' ⟨rfl, rfl⟩
              go_wp2_with fail
              go_ret2
              exact ⟨rfl, rfl⟩
      · have hd1 : (L s).drop 1 = [] := List.drop_of_length_le (by rw [L_len]; omega)
        have p1 := pre_any s ⟨#[92, 110]⟩ false (by rw [hl0, hd1]; exact pre_none _ _ _) w
        have p2 := pre_any s ⟨#[92, 34]⟩ false (by rw [hl0, hd1]; exact pre_none _ _ _) w
        have p3 := pre_any s ⟨#[92, 92]⟩ false (by rw [hl0, hd1]; exact pre_none _ _ _) w
        have hm : Lx.meantP (L s) = (0, 0) := by rw [hm0, hd1]; rfl
        rw [hm]
        have P1 := hide p1; have P2 := hide p2; have P3 := hide p3
        clear hb hv hm hm0 h92 hl0 hd1 p1 p2 p3
        go_enter Tryd.func72, Tryd.ntmps72
        go_wp2_with fail
        refine (unhide HV).mono ?_; rintro e w' ⟨rfl, rfl⟩
        go_wp2_with fail
        refine (unhide P1).mono ?_; rintro e w' ⟨rfl, rfl⟩
        go_wp2_with fail
        refine (unhide P2).mono ?_; rintro e w' ⟨rfl, rfl⟩
        go_wp2_with fail
        refine (unhide P3).mono ?_; rintro e w' ⟨rfl, rfl⟩
        go_wp2_with fail
        go_ret2
        exact ⟨rfl, rfl⟩
    · rw [if_pos h92] at hm0
      rw [hm0]
      have h92n : (((s[0]'hp).toNat : Int) != 92) = true := toNat_ne (n := 92) (by decide) h92
      clear hb hv hm0 h92
      go_enter Tryd.func72, Tryd.ntmps72
      go_wp2_with fail
      refine (unhide HV).mono ?_; rintro e w' ⟨rfl, rfl⟩
      go_wp2_with fail
      go_ret2
      exact ⟨rfl, rfl⟩
end Go.Proofs.YtjppjbkndfbnhaaDoor
