/- Contracts over the program of lexis: the reference's integers and quoted texts. (Written by wip/tools/gen_lexri.py.) -/
import Derived.Test.YtjppjbkndfbnhaaDoorLexRA
import Derived.Test.YtjppjbkndfbnhaaDoorLexCm
namespace Go.Proofs.YtjppjbkndfbnhaaDoor
set_option linter.unusedSimpArgs false
set_option linter.unusedVariables false
open Go.RowKit

set_option maxRecDepth 100000
theorem int_of_all {s d : ByteArray} (hp : L d = Lx.unMinus (L s)) (h48 : ¬ L s = [48]) : Lx.intP (L s) = (decide (0 < d.size) && decide (d.size ≤ 18) && ((L d).head? != some 48) && (L d).all Lx.isDig) := by
  unfold Lx.intP
  rw [← hp, L_len, show (L s == [48]) = false from beq_eq_false_iff_ne.2 h48, Bool.false_or]
theorem int_nodig {s d : ByteArray} (hp : L d = Lx.unMinus (L s)) (h48 : ¬ L s = [48]) {k : Nat} (hk : k < d.size) (hb : Lx.isDig d[k] = false) : Lx.intP (L s) = false := by
  rw [int_of_all hp h48, all_no hk hb, Bool.and_false]
theorem int_fin {s d : ByteArray} (hp : L d = Lx.unMinus (L s)) (h48 : ¬ L s = [48]) (hall : (L d).all Lx.isDig = true) : Lx.intP (L s) = (decide (0 < d.size) && decide (d.size ≤ 18) && ((L d).head? != some 48)) := by
  rw [int_of_all hp h48, hall, Bool.and_true]
theorem L_head (s : ByteArray) (hp : 0 < s.size) : (L s).head? = some s[0] := by
  rw [← List.drop_zero (l := L s), L_drop s 0 hp]; rfl
set_option maxHeartbeats 2000000 in
theorem rint_any (s : ByteArray) (w : World) (hs : s.size ≤ 140737488351232) : Calls Tryd.prog 33 #[.string s] w fun e w' => e = .returned (.bool (Lx.intP (L s))) ∧ w' = w := by
  by_cases h48 : L s = [48]
  · have e : Lx.intP (L s) = true := by rw [h48]; rfl
    rw [e]
    rw [← L_toList] at h48
    clear e
    go_enter Tryd.func33, Tryd.ntmps33
    go_wp2_with fail
    go_ret
    exact ⟨rfl, rfl⟩
  have b48 := neB h48
  have p48 := neP h48
  have H48 := hide h48
  clear h48
  by_cases hm : ∃ hp : 0 < s.size, s[0] = 45
  · obtain ⟨hp, hm⟩ := hm
    have q45 : (((s[0]'hp).toNat : Int) == 45) = true := by rw [hm]; rfl
    obtain ⟨d, hd⟩ : ∃ d, d = s.extract 1 s.size := ⟨_, rfl⟩
    have hi : L d = Lx.unMinus (L s) := by
      rw [hd, L_tail]
      have := L_drop s 0 hp
      rw [List.drop_zero, hm] at this
      rw [this]
      rfl
    have hsz : d.size ≤ s.size := by rw [hd, ByteArray.size_extract]; omega
    have HI := hide hi; have HD := hide hd
    have hs1 : 1 ≤ s.size := hp
    clear hi hm hd
    go_enter Tryd.func33, Tryd.ntmps33
    go_wp2_with fail
    rw [← unhide HD]
    go_loop [3] (fun i => ∃ k : Nat, k ≤ d.size ∧ ((L d).take k).all Lx.isDig = true ∧ i = .int .i64 (k : Int)) (fun i => d.size - (intOf i).toNat)
    case atStart => exact ⟨0, Nat.zero_le _, rfl, rfl⟩
    case round =>
      obtain ⟨k, hk, hall, rfl⟩ := hrel
      have HALL := hide hall
      clear hall
      by_cases hlt : k < d.size
      · have hv := fun W => rdig_any d[k] W
        have HT := hide (take_snocL d k hlt)
        cases hb : Lx.isDig d[k]
        · rw [hb] at hv
          have HV := hide hv
          have HF := hide (int_nodig (unhide HI) (unhide H48) hlt hb)
          clear hv hb
          go_wp2_with fail
          refine ((unhide HV) _).mono ?_; rintro e w' ⟨rfl, rfl⟩
          go_wp2_with fail
          go_ret
          exact ⟨retB (unhide HF).symm, rfl⟩
        · rw [hb] at hv
          have HV := hide hv
          have HX := hide (show ((L d).take (k + 1)).all Lx.isDig = true by rw [unhide HT, List.all_append, unhide HALL]; simp [hb])
          clear hv hb
          go_wp2_with fail
          refine ((unhide HV) _).mono ?_; rintro e w' ⟨rfl, rfl⟩
          go_wp2_with fail
          go_round
          case rel => exact ⟨k + 1, by omega, unhide HX, by go_num⟩
          case measure => simp [intOf]; omega
      · have hall : (L d).all Lx.isDig = true := by
          have := unhide HALL
          rwa [List.take_of_length_le (by rw [L_len]; omega)] at this
        have hfin := int_fin (unhide HI) (unhide H48) hall
        have HFIN := hide hfin
        clear hall hfin
        by_cases h1 : 0 < d.size
        · by_cases h2 : d.size ≤ 18
          · by_cases h3 : d[0]'h1 = 48
            · have q : (((d[0]'h1).toNat : Int) != 48) = false := by rw [h3]; rfl
              have HF := hide (show Lx.intP (L s) = false by rw [unhide HFIN, decide_eq_true h1, decide_eq_true h2, L_head d h1, h3]; rfl)
              clear h3
              go_wp2_with fail
              go_ret
              exact ⟨retB (unhide HF).symm, rfl⟩
            · have q : (((d[0]'h1).toNat : Int) != 48) = true := toNat_ne (n := 48) (by decide) h3
              have HF := hide (show Lx.intP (L s) = true by rw [unhide HFIN, decide_eq_true h1, decide_eq_true h2, L_head d h1]; simp [h3])
              clear h3
              go_wp2_with fail
              go_ret
              exact ⟨retB (unhide HF).symm, rfl⟩
          · have HF := hide (show Lx.intP (L s) = false by rw [unhide HFIN, decide_eq_false h2, Bool.and_false, Bool.false_and])
            have q : ¬ (d.size : Int) ≤ 18 := by omega
            go_wp2_with fail
            go_ret
            exact ⟨retB (unhide HF).symm, rfl⟩
        · have HF := hide (show Lx.intP (L s) = false by rw [unhide HFIN, decide_eq_false h1, Bool.false_and, Bool.false_and])
          go_wp2_with fail
          go_ret
          exact ⟨retB (unhide HF).symm, rfl⟩
  · have hi : L s = Lx.unMinus (L s) := by
      cases hl : L s with
      | nil => rfl
      | cons c r =>
        have hp : 0 < s.size := by rw [← L_len, hl]; simp
        have hc : s[0] = c := by
          have := L_drop s 0 hp
          rw [List.drop_zero, hl] at this
          injection this with h _
          exact h.symm
        rw [Lx.unMinus_no (fun e => hm ⟨hp, hc.trans e⟩)]
    have HI := hide hi
    clear hi
    by_cases hp : 0 < s.size
    · have q45 : (((s[0]'hp).toNat : Int) == 45) = false := by
        rw [beq_eq_false_iff_ne]; intro e; exact hm ⟨hp, (Lx.eq_byte (n := 45) (by decide)).2 (by omega)⟩
      clear hm
      go_enter Tryd.func33, Tryd.ntmps33
      go_wp2_with fail
      go_loop [3] (fun i => ∃ k : Nat, k ≤ s.size ∧ ((L s).take k).all Lx.isDig = true ∧ i = .int .i64 (k : Int)) (fun i => s.size - (intOf i).toNat)
      case atStart => exact ⟨0, Nat.zero_le _, rfl, rfl⟩
      case round =>
        obtain ⟨k, hk, hall, rfl⟩ := hrel
        have HALL := hide hall
        clear hall
        by_cases hlt : k < s.size
        · have hv := fun W => rdig_any s[k] W
          have HT := hide (take_snocL s k hlt)
          cases hb : Lx.isDig s[k]
          · rw [hb] at hv
            have HV := hide hv
            have HF := hide (int_nodig (unhide HI) (unhide H48) hlt hb)
            clear hv hb
            go_wp2_with fail
            refine ((unhide HV) _).mono ?_; rintro e w' ⟨rfl, rfl⟩
            go_wp2_with fail
            go_ret
            exact ⟨retB (unhide HF).symm, rfl⟩
          · rw [hb] at hv
            have HV := hide hv
            have HX := hide (show ((L s).take (k + 1)).all Lx.isDig = true by rw [unhide HT, List.all_append, unhide HALL]; simp [hb])
            clear hv hb
            go_wp2_with fail
            refine ((unhide HV) _).mono ?_; rintro e w' ⟨rfl, rfl⟩
            go_wp2_with fail
            go_round
            case rel => exact ⟨k + 1, by omega, unhide HX, by go_num⟩
            case measure => simp [intOf]; omega
        · have hall : (L s).all Lx.isDig = true := by
            have := unhide HALL
            rwa [List.take_of_length_le (by rw [L_len]; omega)] at this
          have hfin := int_fin (unhide HI) (unhide H48) hall
          have HFIN := hide hfin
          clear hall hfin
          by_cases h1 : 0 < s.size
          · by_cases h2 : s.size ≤ 18
            · by_cases h3 : s[0]'h1 = 48
              · have q : (((s[0]'h1).toNat : Int) != 48) = false := by rw [h3]; rfl
                have HF := hide (show Lx.intP (L s) = false by rw [unhide HFIN, decide_eq_true h1, decide_eq_true h2, L_head s h1, h3]; rfl)
                clear h3
                go_wp2_with fail
                go_ret
                exact ⟨retB (unhide HF).symm, rfl⟩
              · have q : (((s[0]'h1).toNat : Int) != 48) = true := toNat_ne (n := 48) (by decide) h3
                have HF := hide (show Lx.intP (L s) = true by rw [unhide HFIN, decide_eq_true h1, decide_eq_true h2, L_head s h1]; simp [h3])
                clear h3
                go_wp2_with fail
                go_ret
                exact ⟨retB (unhide HF).symm, rfl⟩
            · have HF := hide (show Lx.intP (L s) = false by rw [unhide HFIN, decide_eq_false h2, Bool.and_false, Bool.false_and])
              have q : ¬ (s.size : Int) ≤ 18 := by omega
              go_wp2_with fail
              go_ret
              exact ⟨retB (unhide HF).symm, rfl⟩
          · exact absurd hp h1
    · have HF := hide (show Lx.intP (L s) = false by rw [int_of_all (unhide HI) (unhide H48), decide_eq_false hp]; rfl)
      clear hm
      go_enter Tryd.func33, Tryd.ntmps33
      go_wp2_with fail
      go_loop [3] (fun i => i = .int .i64 0) (fun i => 0)
      case atStart => rfl
      case round =>
        obtain rfl := hrel
        go_wp2_with fail
        go_ret
        exact ⟨retB (unhide HF).symm, rfl⟩

structure RQInv (w : World) (s : ByteArray) (k : Nat) (v : Value) (wr : World) : Prop where
  own : OwnB wr w.heap.size v (34 :: Lx.esc ((L s).take k))
  below : Below w.heap.size w wr
theorem RQInv.step {w wr w2 : World} {s : ByteArray} {k : Nat} {v v2 : Value} {o : Obj} (h : RQInv w s k v wr) (hk : k < s.size) (news : List Lx.B) (hn : news = Lx.esc1 s[k])
    (ho : OwnB w2 w.heap.size v2 (34 :: (Lx.esc ((L s).take k) ++ news))) (hg : (wr.alloc o).grownBy w2 v.ownBlock) : RQInv w s (k + 1) v2 w2 := by
  refine ⟨?_, (h.below.alloc h.below.size o).grown hg (by have := h.below.size; simp; omega) (own_lt h.own)⟩
  rw [L_take s k hk, Lx.esc_snoc, ← hn]
  exact ho
def StrIs (l : List Lx.B) (w : World) (e : Ending) (w' : World) : Prop := e = .returned (.string ⟨l.toArray⟩) ∧ Below w.heap.size w w'
set_option maxHeartbeats 4000000 in
theorem rquote_any (s : ByteArray) (w : World) (hs : s.size ≤ 1000000) : Calls Tryd.prog 35 #[.string s] w (StrIs (Lx.quoteT (L s)) w) := by
  unfold StrIs
  go_enter Tryd.func35, Tryd.ntmps35
  go_wp2_with fail
  go_loopw [3, 4] (fun v i wr => ∃ k : Nat, k ≤ s.size ∧ i = .int .i64 (k : Int) ∧ RQInv w s k v wr) (fun _ i _ => s.size - (intOf i).toNat)
  case atStart =>
    refine ⟨0, Nat.zero_le _, rfl, ⟨?_, (Below.refl _ _).alloc (Nat.le_refl _) _⟩⟩
    exact World.ownsRow_lit (size := 1) w #[.int .u8 34] 1 (Nat.le_refl _) (by unfold maxLen; omega) rfl
  case round =>
    obtain ⟨k, hk, rfl, hinv⟩ := hrel
    have hel : (34 :: Lx.esc ((L s).take k)).length ≤ 5000000 := by
      have := Lx.esc_len ((L s).take k)
      have h2 : ((L s).take k).length ≤ k := List.length_take_le _ _
      rw [List.length_cons]
      omega
    have hBr := hinv.below.size
    have HI := hide hinv; have HEL := hide hel
    clear hinv hel
    by_cases hlt : k < s.size
    · by_cases h10 : s[k] = 10
      · have HE := hide (show [92, 110] = Lx.esc1 s[k] by unfold Lx.esc1; rw [if_neg (by rw [h10]; decide), if_pos h10])
        have q3 : ((s[k].toNat : Int) == 10) = true := by rw [h10]; rfl
        clear h10
        go_wp2_with (at_builtin; refine wpList_appB rfl _ _ rfl w.heap.size _ (34 :: Lx.esc ((L s).take k)) [92, 110] wr.heap.size 2 2 rfl rfl rfl (World.ownsRow.alloc (unhide HI).own _) (twoB ?c1 ?c2) ?c3 ?c4 ?_)
        case c1 => go_simp
        case c2 => go_simp
        case c3 => have := unhide HEL; simp only [List.length_cons, List.length_nil] at this ⊢; omega
        case c4 => simp; omega
        intro v2 w2 hown hgrow
        have HN := hide ((unhide HI).step hlt _ (unhide HE) hown hgrow)
        clear hown hgrow
        go_wp2_with fail
        go_roundw
        case rel => exact ⟨k + 1, by omega, by go_num, unhide HN⟩
        case measure => simp [intOf]; omega
      · have q3 : ((s[k].toNat : Int) == 10) = false := by rw [beq_eq_false_iff_ne]; intro e; exact h10 ((Lx.eq_byte (n := 10) (by decide)).2 (by omega))
        by_cases h34 : s[k] = 34
        · have HE := hide (show [92, s[k]] = Lx.esc1 s[k] by unfold Lx.esc1; rw [if_pos (.inl h34)])
          have q1 : ((s[k].toNat : Int) == 34) = true := by rw [h34]; rfl
          clear h10 h34
          go_wp2_with (at_builtin; refine wpList_appB rfl _ _ rfl w.heap.size _ (34 :: Lx.esc ((L s).take k)) [92, s[k]] wr.heap.size 2 2 rfl rfl rfl (World.ownsRow.alloc (unhide HI).own _) (twoB ?c1 ?c2) ?c3 ?c4 ?_)
          case c1 => go_simp
          case c2 => go_simp
          case c3 => have := unhide HEL; simp only [List.length_cons, List.length_nil] at this ⊢; omega
          case c4 => simp; omega
          intro v2 w2 hown hgrow
          have HN := hide ((unhide HI).step hlt _ (unhide HE) hown hgrow)
          clear hown hgrow
          go_wp2_with fail
          go_roundw
          case rel => exact ⟨k + 1, by omega, by go_num, unhide HN⟩
          case measure => simp [intOf]; omega
        · have q1 : ((s[k].toNat : Int) == 34) = false := by rw [beq_eq_false_iff_ne]; intro e; exact h34 ((Lx.eq_byte (n := 34) (by decide)).2 (by omega))
          by_cases h92 : s[k] = 92
          · have HE := hide (show [92, s[k]] = Lx.esc1 s[k] by unfold Lx.esc1; rw [if_pos (.inr h92)])
            have q2 : ((s[k].toNat : Int) == 92) = true := by rw [h92]; rfl
            clear h10 h34 h92
            go_wp2_with (at_builtin; refine wpList_appB rfl _ _ rfl w.heap.size _ (34 :: Lx.esc ((L s).take k)) [92, s[k]] wr.heap.size 2 2 rfl rfl rfl (World.ownsRow.alloc (unhide HI).own _) (twoB ?c1 ?c2) ?c3 ?c4 ?_)
            case c1 => go_simp
            case c2 => go_simp
            case c3 => have := unhide HEL; simp only [List.length_cons, List.length_nil] at this ⊢; omega
            case c4 => simp; omega
            intro v2 w2 hown hgrow
            have HN := hide ((unhide HI).step hlt _ (unhide HE) hown hgrow)
            clear hown hgrow
            go_wp2_with fail
            go_roundw
            case rel => exact ⟨k + 1, by omega, by go_num, unhide HN⟩
            case measure => simp [intOf]; omega
          · have HE := hide (show [s[k]] = Lx.esc1 s[k] by unfold Lx.esc1; rw [if_neg (fun e => e.elim h34 h92), if_neg h10])
            have q2 : ((s[k].toNat : Int) == 92) = false := by rw [beq_eq_false_iff_ne]; intro e; exact h92 ((Lx.eq_byte (n := 92) (by decide)).2 (by omega))
            clear h10 h34 h92
            go_wp2_with (at_builtin; refine wpList_appB rfl _ _ rfl w.heap.size _ (34 :: Lx.esc ((L s).take k)) [s[k]] wr.heap.size 1 1 rfl rfl rfl (World.ownsRow.alloc (unhide HI).own _) (oneB ?c1) ?c3 ?c4 ?_)
            case c1 => go_simp
            case c3 => have := unhide HEL; simp only [List.length_cons, List.length_nil] at this ⊢; omega
            case c4 => simp; omega
            intro v2 w2 hown hgrow
            have HN := hide ((unhide HI).step hlt _ (unhide HE) hown hgrow)
            clear hown hgrow
            go_wp2_with fail
            go_roundw
            case rel => exact ⟨k + 1, by omega, by go_num, unhide HN⟩
            case measure => simp [intOf]; omega
    · have HF := hide (show 34 :: (Lx.esc ((L s).take k) ++ [34]) = Lx.quoteT (L s) by rw [List.take_of_length_le (by rw [L_len]; omega)]; rfl)
      go_wp2_with (at_builtin; refine wpList_appB rfl _ _ rfl w.heap.size _ (34 :: Lx.esc ((L s).take k)) [34] wr.heap.size 1 1 rfl rfl rfl (World.ownsRow.alloc (unhide HI).own _) (oneB ?c1) ?c3 ?c4 ?_)
      case c1 => go_simp
      case c3 => have := unhide HEL; simp only [List.length_cons, List.length_nil] at this ⊢; omega
      case c4 => simp; omega
      intro v2 w2 hown hgrow
      have hb2 := ((unhide HI).below.alloc hBr _).grown hgrow (by simp; omega) (own_lt (unhide HI).own)
      replace hown : OwnB w2 w.heap.size v2 (34 :: (Lx.esc ((L s).take k) ++ [34])) := hown
      rw [unhide HF] at hown
      have hcv := OwnB.conv hown
      have HB2 := hide hb2
      clear hown hgrow hb2
      go_wp2_with fail
      go_ret
      exact ⟨rfl, unhide HB2⟩
end Go.Proofs.YtjppjbkndfbnhaaDoor
