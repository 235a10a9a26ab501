/- Contracts over the program of facts: the reference's sheet. Contracts over the program of facts: the reference's ruling. -/
import Derived.Test.YtdmaopfaeigelaaGreatDoorFacCABC
namespace Go.Proofs.YtdmaopfaeigelaaGreatDoor
set_option linter.unusedSimpArgs false
set_option linter.unusedVariables false
set_option maxRecDepth 100000
open Go.RowKit

theorem pens_ref (s : Sh) (h : true = okGame s.g) : okPens s = (inR s.hp 0 99 && inR s.ap 0 99 && !((!decide (s.hp = 0) || !decide (s.ap = 0)) && (inR s.g.c 0 7 || decide (s.hp = s.ap)))) := by
  have hg : inR s.g.c 0 15 = true := by
    have h := h.symm
    unfold okGame at h
    simp only [Bool.and_eq_true] at h
    exact h.1.1.1.2
  have hB : decide (s.hp = 0) = true → inR s.hp 0 99 = true := fun e => by rw [decide_eq_true_eq] at e; rw [e]; rfl
  have hC : decide (s.ap = 0) = true → inR s.ap 0 99 = true := fun e => by rw [decide_eq_true_eq] at e; rw [e]; rfl
  rw [league_in hg.symm]
  unfold okPens
  generalize decide (s.hp = 0) = D at hB ⊢
  generalize decide (s.ap = 0) = E at hC ⊢
  generalize inR s.hp 0 99 = B at hB ⊢
  generalize inR s.ap 0 99 = C at hC ⊢
  generalize decide (s.g.c < 8) = A
  generalize decide (s.hp = s.ap) = F
  cases A <;> cases B <;> cases C <;> cases D <;> cases E <;> cases F <;> simp_all
set_option maxRecDepth 100000 in
set_option maxHeartbeats 4000000 in
theorem rsheet_any (s : Sh) (a : Ad) (w : World) (f1 : Sl w a.hs s.hs a.nhs) (f2 : Sl w a.as_ s.as_ a.nas) (f3 : Sc w a.hc s.hc a.nhc) (f4 : Sc w a.ac s.ac a.nac) : Calls Tryz.prog 67 #[.agg (sC s a).toArray] w fun x w' => x = .returned (.bool (okSheet s)) ∧ Below w.heap.size w w' := by
  obtain ⟨R, hR⟩ : ∃ R, R = okSheet s := ⟨_, rfl⟩
  rw [← hR]
  obtain ⟨b0, hb0⟩ : ∃ b, b = (okGame s.g) := ⟨_, rfl⟩
  obtain ⟨b1, hb1⟩ : ∃ b, b = (inR s.rf 0 1) := ⟨_, rfl⟩
  obtain ⟨b2, hb2⟩ : ∃ b, b = (inR s.hg 0 99) := ⟨_, rfl⟩
  obtain ⟨b3, hb3⟩ : ∃ b, b = (inR s.ag 0 99) := ⟨_, rfl⟩
  obtain ⟨b4, hb4⟩ : ∃ b, b = (inR s.hp 0 99) := ⟨_, rfl⟩
  obtain ⟨b5, hb5⟩ : ∃ b, b = (inR s.ap 0 99) := ⟨_, rfl⟩
  obtain ⟨b6, hb6⟩ : ∃ b, b = (okSquad s.hs) := ⟨_, rfl⟩
  obtain ⟨b7, hb7⟩ : ∃ b, b = (okSquad s.as_) := ⟨_, rfl⟩
  obtain ⟨b8, hb8⟩ : ∃ b, b = (okCards s.hc s.hs) := ⟨_, rfl⟩
  obtain ⟨b9, hb9⟩ : ∃ b, b = (okCards s.ac s.as_) := ⟨_, rfl⟩
  obtain ⟨b10, hb10⟩ : ∃ b, b = inR s.g.c 0 7 := ⟨_, rfl⟩
  obtain ⟨b11, hb11⟩ : ∃ b, b = (s.hs.any fun x => s.as_.contains x) := ⟨_, rfl⟩
  obtain ⟨p0, hp0⟩ : ∃ b, (s.hp != 0) = b := ⟨_, rfl⟩
  obtain ⟨p1, hp1⟩ : ∃ b, (s.ap != 0) = b := ⟨_, rfl⟩
  obtain ⟨p2, hp2⟩ : ∃ b, (s.hp == s.ap) = b := ⟨_, rfl⟩
  have HR : Hid (R = (b0 && (b1 && (b2 && b3) && (b4 && b5 && !((p0 || p1) && (b10 || p2))) && b6 && b7 && !b11 && b8 && b9))) := by
    have : R = (b0 && (b1 && (b2 && b3) && (b4 && b5 && !((p0 || p1) && (b10 || p2))) && b6 && b7 && !b11 && b8 && b9)) := by
      rw [hR, ← hp0, ← hp1, ← hp2, hb0, hb1, hb2, hb3, hb4, hb5, hb6, hb7, hb8, hb9, hb10, hb11]
      unfold okSheet
      cases h : okGame s.g
      · rfl
      · rw [pens_ref s h.symm, bne_dec, bne_dec, beq_dec]
        simp only [Bool.true_and, Bool.and_assoc]
    exact this
  have F1 := hide f1; have F2 := hide f2; have F3 := hide f3; have F4 := hide f4
  have E0 := hide hb0
  have E1 := hide hb1
  have E2 := hide hb2
  have E3 := hide hb3
  have E4 := hide hb4
  have E5 := hide hb5
  have E6 := hide hb6
  have E7 := hide hb7
  have E8 := hide hb8
  have E9 := hide hb9
  have E10 := hide hb10
  have E11 := hide hb11
  clear hR f1 f2 f3 f4 hb0 hb1 hb2 hb3 hb4 hb5 hb6 hb7 hb8 hb9 hb10 hb11
  obtain ⟨cs, hcs⟩ : ∃ zz, zz = sC s a := ⟨_, rfl⟩
  rw [← hcs]
  have HCS := hide hcs
  clear hcs
  go_enter Tryz.func67, Tryz.ntmps67
  go_upto_region 1 with fail
  generalize hX1 : w.alloc _ = W1
  have hB1 : Below w.heap.size w W1 := hX1 ▸ (Below.refl _ _).alloc (Nat.le_refl _) _
  have HV := hide (boxedV w W1 cs 31 (by rw [← hX1]; rfl))
  rw [unhide HCS] at HV
  have HB := hide hB1
  clear hX1 hB1 HCS
  have hc0 : W1.cell? ⟨w.heap.size, 0, none⟩ = some (.int .i64 s.g.s) := (unhide HV).cell rfl
  have hc1 : W1.cell? ⟨w.heap.size, 1, none⟩ = some (.int .i64 s.g.c) := (unhide HV).cell rfl
  have hc2 : W1.cell? ⟨w.heap.size, 2, none⟩ = some (.int .i64 s.g.h) := (unhide HV).cell rfl
  have hc3 : W1.cell? ⟨w.heap.size, 3, none⟩ = some (.int .i64 s.g.a) := (unhide HV).cell rfl
  have HC := hide (rgame_any s.g W1)
  rw [← unhide E0] at HC
  go_wp2_with fail
  refine (unhide HC).mono ?_; rintro x W2 ⟨rfl, hG⟩
  clear HC hc0 hc1 hc2 hc3
  have HV := hide ((unhide HV).keep hG); have HB := hide (thenB (unhide HB) hG)
  clear hG
  cases b0
  case false =>
    skip
    go_wp2_with fail
    go_ret
    exact ⟨by rw [unhide HR]; simp, unhide HB⟩
  have hc4 : W2.cell? ⟨w.heap.size, 4, none⟩ = some (.int .i64 s.rf) := (unhide HV).cell rfl
  have HC := hide (rwithin_any s.rf 0 1 W2)
  rw [← unhide E1] at HC
  go_wp2_with fail
  refine (unhide HC).mono ?_; rintro x W3 ⟨rfl, rfl⟩
  clear HC hc4
  cases b1
  case false =>
    skip
    go_wp2_with fail
    go_ret
    exact ⟨by rw [unhide HR]; simp, unhide HB⟩
  have hc5 : W3.cell? ⟨w.heap.size, 5, none⟩ = some (.int .i64 s.hg) := (unhide HV).cell rfl
  have HC := hide (rgoals_any s.hg W3)
  rw [← unhide E2] at HC
  go_wp2_with fail
  refine (unhide HC).mono ?_; rintro x W4 ⟨rfl, rfl⟩
  clear HC hc5
  cases b2
  case false =>
    skip
    go_wp2_with fail
    go_ret
    exact ⟨by rw [unhide HR]; simp, unhide HB⟩
  have hc6 : W4.cell? ⟨w.heap.size, 6, none⟩ = some (.int .i64 s.ag) := (unhide HV).cell rfl
  have HC := hide (rgoals_any s.ag W4)
  rw [← unhide E3] at HC
  go_wp2_with fail
  refine (unhide HC).mono ?_; rintro x W5 ⟨rfl, rfl⟩
  clear HC hc6
  cases b3
  case false =>
    skip
    go_wp2_with fail
    go_ret
    exact ⟨by rw [unhide HR]; simp, unhide HB⟩
  have hc7 : W5.cell? ⟨w.heap.size, 7, none⟩ = some (.int .i64 s.hp) := (unhide HV).cell rfl
  have HC := hide (rgoals_any s.hp W5)
  rw [← unhide E4] at HC
  go_wp2_with fail
  refine (unhide HC).mono ?_; rintro x W6 ⟨rfl, rfl⟩
  clear HC hc7
  cases b4
  case false =>
    skip
    go_wp2_with fail
    go_ret
    exact ⟨by rw [unhide HR]; simp, unhide HB⟩
  have hc8 : W6.cell? ⟨w.heap.size, 8, none⟩ = some (.int .i64 s.ap) := (unhide HV).cell rfl
  have HC := hide (rgoals_any s.ap W6)
  rw [← unhide E5] at HC
  go_wp2_with fail
  refine (unhide HC).mono ?_; rintro x W7 ⟨rfl, rfl⟩
  clear HC hc8
  cases b5
  case false =>
    skip
    go_wp2_with fail
    go_ret
    exact ⟨by rw [unhide HR]; simp, unhide HB⟩
  have HL := hide (rleague_any s.g.c W7)
  rw [← unhide E10] at HL
  cases p0
  case true =>
    have hc1 : W7.cell? ⟨w.heap.size, 1, none⟩ = some (.int .i64 s.g.c) := (unhide HV).cell rfl
    have hc7 : W7.cell? ⟨w.heap.size, 7, none⟩ = some (.int .i64 s.hp) := (unhide HV).cell rfl
    have hc8 : W7.cell? ⟨w.heap.size, 8, none⟩ = some (.int .i64 s.ap) := (unhide HV).cell rfl
    go_wp2_with fail
    refine (unhide HL).mono ?_; rintro x W8 ⟨rfl, rfl⟩
    cases b10
    case true =>
      go_wp2_with fail
      go_ret
      exact ⟨by rw [unhide HR]; simp, unhide HB⟩
    cases p2
    case true =>
      go_wp2_with fail
      go_ret
      exact ⟨by rw [unhide HR]; simp, unhide HB⟩
    have hc9 : W8.cell? ⟨w.heap.size, 9, none⟩ = some (.slice a.hs s.hs.length a.nhs) := (unhide HV).cell rfl
    have HC := hide (rsquad_any W8 a.hs s.hs.length a.nhs s.hs rfl ((unhide F1).keep (unhide HB)))
    rw [← unhide E6] at HC
    go_wp2_with fail
    refine (unhide HC).mono ?_; rintro x W9 ⟨rfl, hG⟩
    clear HC hc9
    have HV := hide ((unhide HV).keep hG); have HB := hide (thenB (unhide HB) hG)
    clear hG
    cases b6
    case false =>
      skip
      go_wp2_with fail
      go_ret
      exact ⟨by rw [unhide HR]; simp, unhide HB⟩
    have hc10 : W9.cell? ⟨w.heap.size, 10, none⟩ = some (.slice a.as_ s.as_.length a.nas) := (unhide HV).cell rfl
    have HC := hide (rsquad_any W9 a.as_ s.as_.length a.nas s.as_ rfl ((unhide F2).keep (unhide HB)))
    rw [← unhide E7] at HC
    go_wp2_with fail
    refine (unhide HC).mono ?_; rintro x W10 ⟨rfl, hG⟩
    clear HC hc10
    have HV := hide ((unhide HV).keep hG); have HB := hide (thenB (unhide HB) hG)
    clear hG
    cases b7
    case false =>
      skip
      go_wp2_with fail
      go_ret
      exact ⟨by rw [unhide HR]; simp, unhide HB⟩
    have hc9 : W10.cell? ⟨w.heap.size, 9, none⟩ = some (.slice a.hs s.hs.length a.nhs) := (unhide HV).cell rfl
    have hc11 : W10.cell? ⟨w.heap.size, 11, none⟩ = some (.slice a.hc s.hc.length a.nhc) := (unhide HV).cell rfl
    have HC := hide (rcards_any W10 a.hc s.hc.length a.nhc s.hc rfl ((unhide F3).keep (unhide HB)) a.hs s.hs.length a.nhs s.hs rfl ((unhide F1).keep (unhide HB)))
    rw [← unhide E8] at HC
    go_wp2_with fail
    refine (unhide HC).mono ?_; rintro x W11 ⟨rfl, rfl⟩
    clear HC hc9 hc11
    cases b8
    case false =>
      skip
      go_wp2_with fail
      go_ret
      exact ⟨by rw [unhide HR]; simp, unhide HB⟩
    have hc10 : W11.cell? ⟨w.heap.size, 10, none⟩ = some (.slice a.as_ s.as_.length a.nas) := (unhide HV).cell rfl
    have hc12 : W11.cell? ⟨w.heap.size, 12, none⟩ = some (.slice a.ac s.ac.length a.nac) := (unhide HV).cell rfl
    have HC := hide (rcards_any W11 a.ac s.ac.length a.nac s.ac rfl ((unhide F4).keep (unhide HB)) a.as_ s.as_.length a.nas s.as_ rfl ((unhide F2).keep (unhide HB)))
    rw [← unhide E9] at HC
    go_wp2_with fail
    refine (unhide HC).mono ?_; rintro x W12 ⟨rfl, rfl⟩
    clear HC hc10 hc12
    cases b9
    case false =>
      skip
      go_wp2_with fail
      go_ret
      exact ⟨by rw [unhide HR]; simp, unhide HB⟩
    have kc : (s.hs.length : Int) ≤ (a.nhs : Int) := by have := (unhide F1).cap; omega
    have HRT : Hid (R = !b11) := by
      have : R = !b11 := by rw [unhide HR]; simp
      exact this
    go_wp2_with fail
    go_loopg [4] s.hs.length (fun g y4 wx => ∃ k : Nat, y4 = .int .i64 (k : Int) ∧ g + k = s.hs.length ∧ (∀ i, i < k → s.as_.contains (s.hs.getD i 0) = false) ∧ VsAt wx w.heap.size 31 (sC s a) ∧ Below w.heap.size w wx)
    case atStart => exact ⟨0, rfl, by omega, fun i h => by omega, unhide HV, unhide HB⟩
    case round =>
      obtain ⟨k, rfl, hk, hall, hv, hb⟩ := hrel
      have HALL := hide hall
      have HV := hide hv; have HB := hide hb
      have hc9 : wr.cell? ⟨w.heap.size, 9, none⟩ = some (.slice a.hs s.hs.length a.nhs) := hv.cell rfl
      by_cases hkn : k < s.hs.length
      · obtain ⟨g, rfl⟩ : ∃ g, gk = g + 1 := ⟨gk - 1, by omega⟩
        have i1 : (k : Int) < (s.hs.length : Int) := by omega
        have i0 : (0 : Int) ≤ (k : Int) := Int.natCast_nonneg _
        have wk : IntKind.i64.wrap ((k : Int) + 1) = ((k + 1 : Nat) : Int) := (IntWalk.i64_in _ (by have := (unhide F1).few; omega)).trans (by omega)
        obtain ⟨b, o, hbo, hc⟩ := ((unhide F1).it.keep hb).at_ (fun e => by rw [e] at hkn; simp at hkn)
        have h1 := hc k hkn
        obtain ⟨x, hx⟩ : ∃ x, x = s.hs.getD k 0 := ⟨_, rfl⟩
        rw [← hx] at h1
        have HX : Hid (x = s.hs.getD k 0 ∧ k < s.hs.length ∧ g + 1 + k = s.hs.length) := ⟨hx, hkn, hk⟩
        have K1 := hide h1
        obtain ⟨z, hz⟩ : ∃ z, z = s.as_.contains x := ⟨_, rfl⟩
        have HZ := hide hz
        obtain ⟨W, hW⟩ : ∃ W, W = wr.drewN 1 := ⟨_, rfl⟩
        have HW : Hid (W = wr.drewN 1) := hW
        have hS : Below wr.heap.size wr W := below_named HW
        have hcal := rmember_any W a.as_ s.as_.length a.nas s.as_ rfl (((unhide F2).keep hb).keep hS) x
        rw [← hz] at hcal
        have HC := hide hcal; have HBO := hide hbo
        clear hc h1 hx hkn hk hall hb hv hW hz hcal hbo
        go_upto_region 11 with fail
        clear hc9
        refine held (S := Below wr.heap.size wr) W HW (by kernel_rfl) ?_
        refine wpAnyH_take (i := 0) (v := ?_) rfl (by kernel_rfl) (by kernel_rfl) (by kernel_rfl) (fun _ _ _ h => h) (Or.inl ⟨by kernel_rfl, ?_⟩) (by assumption) ?_
        rotate_left
        · intro Wt hSt
          go_simp
          try with_reducible rfl
        try simp only [List.getElem_toArray, List.getElem_cons_zero, List.getElem_cons_succ, Act.put, List.setIfInBounds_toArray, List.set_cons_zero, List.set_cons_succ]
        refine wpAnyH_take (i := 1) (v := ?_) rfl (by kernel_rfl) (by kernel_rfl) (by kernel_rfl) (fun _ _ _ h => h) (Or.inl ⟨by kernel_rfl, ?_⟩) (by assumption) ?_
        rotate_left
        · intro Wt hSt
          have hct := (show Wt.cell? ⟨w.heap.size, 10, none⟩ = some (.slice a.as_ s.as_.length a.nas) from ((unhide HV).keep hSt).cell rfl)
          go_simp
          try with_reducible rfl
        try simp only [List.getElem_toArray, List.getElem_cons_zero, List.getElem_cons_succ, Act.put, List.setIfInBounds_toArray, List.set_cons_zero, List.set_cons_succ]
        refine wpAnyH_take (i := 2) (v := ?_) rfl (by kernel_rfl) (by kernel_rfl) (by kernel_rfl) (fun _ _ _ h => h) (Or.inl ⟨by kernel_rfl, ?_⟩) (by assumption) ?_
        rotate_left
        · intro Wt hSt
          go_simp
          try with_reducible rfl
        try simp only [List.getElem_toArray, List.getElem_cons_zero, List.getElem_cons_succ, Act.put, List.setIfInBounds_toArray, List.set_cons_zero, List.set_cons_succ]
        refine wpAnyH_take (i := 3) (v := ?_) rfl (by kernel_rfl) (by kernel_rfl) (by kernel_rfl) (fun _ _ _ h => h) (Or.inl ⟨by kernel_rfl, ?_⟩) (by assumption) ?_
        rotate_left
        · intro Wt hSt
          have hct := (show Wt.cell? ⟨w.heap.size, 9, none⟩ = some (.slice (some ⟨b, o, none⟩) s.hs.length a.nhs) from by rw [← unhide HBO]; exact ((unhide HV).keep hSt).cell rfl)
          go_simp
          try with_reducible rfl
        try simp only [List.getElem_toArray, List.getElem_cons_zero, List.getElem_cons_succ, Act.put, List.setIfInBounds_toArray, List.set_cons_zero, List.set_cons_succ]
        refine wpAnyH_take (i := 4) (v := ?_) rfl (by kernel_rfl) (by kernel_rfl) (by kernel_rfl) (fun _ _ _ h => h) (Or.inl ⟨by kernel_rfl, ?_⟩) (by assumption) ?_
        rotate_left
        · intro Wt hSt
          go_simp
          try with_reducible rfl
        try simp only [List.getElem_toArray, List.getElem_cons_zero, List.getElem_cons_succ, Act.put, List.setIfInBounds_toArray, List.set_cons_zero, List.set_cons_succ]
        refine wpAnyH_take (i := 5) (v := ?_) rfl (by kernel_rfl) (by kernel_rfl) (by kernel_rfl) (fun _ _ _ h => h) (Or.inl ⟨by kernel_rfl, ?_⟩) (by assumption) ?_
        rotate_left
        · intro Wt hSt
          go_simp
          try with_reducible rfl
        try simp only [List.getElem_toArray, List.getElem_cons_zero, List.getElem_cons_succ, Act.put, List.setIfInBounds_toArray, List.set_cons_zero, List.set_cons_succ]
        refine wpAnyH_take (i := 6) (v := ?_) rfl (by kernel_rfl) (by kernel_rfl) (by kernel_rfl) (fun _ _ _ h => h) (Or.inl ⟨by kernel_rfl, ?_⟩) (by assumption) ?_
        rotate_left
        · intro Wt hSt
          have hct := (show Wt.cell? ⟨b, o + k, none⟩ = some (.int .i64 x) from (hSt.cell (p := ⟨b, o + k, none⟩) (lt_of_cell (unhide K1))).trans (unhide K1))
          go_simp
          try with_reducible rfl
        try simp only [List.getElem_toArray, List.getElem_cons_zero, List.getElem_cons_succ, Act.put, List.setIfInBounds_toArray, List.set_cons_zero, List.set_cons_succ]
        refine wpAnyH_one 7 _ rfl (by kernel_rfl) (by kernel_rfl) ?_
        skip
        intro Kt hK
        go_simp
        refine (unhide HC).mono ?_; rintro e W2 ⟨rfl, rfl⟩
        dsimp only
        refine hK _ _ hS ?_
        clear hK Kt
        try simp only [List.getElem_toArray, List.getElem_cons_zero, List.getElem_cons_succ, Act.put, List.setIfInBounds_toArray, List.set_cons_zero, List.set_cons_succ]
        refine wpAnyH_chainOf [] _ _ _ (by kernel_rfl) (by kernel_rfl) ?_
        refine wpChain_nil ?_
        have HS := hide (thenB (unhide HB) hS)
        have HV2 := hide ((unhide HV).keep hS)
        clear hS
        cases z
        case true =>
          have e : R = false := by
            rw [unhide HRT, unhide E11]
            have h := unhide HX
            have : (s.hs.any fun x => s.as_.contains x) = true := by
              rw [List.any_eq_true]
              exact ⟨s.hs.getD k 0, getD_mem h.2.1, by rw [← h.1, ← unhide HZ]⟩
            rw [this]
            rfl
          subst e
          go_wp2_with fail
          go_ret
          exact ⟨rfl, unhide HS⟩
        go_wp2_with fail
        go_roundg g
        case measure => omega
        case rel =>
          have h := unhide HX
          refine ⟨k + 1, rfl, by omega, fun i h1 => ?_, unhide HV2, unhide HS⟩
          by_cases hi : i < k
          · exact (unhide HALL) i hi
          · obtain rfl : i = k := by omega
            rw [← h.1, ← unhide HZ]
      · have i1 : ¬ (k : Int) < (s.hs.length : Int) := by omega
        have e : R = true := by
          rw [unhide HRT, unhide E11]
          have : (s.hs.any fun x => s.as_.contains x) = false := by
            rw [List.any_eq_false]
            intro x hx
            obtain ⟨i, hi, rfl⟩ := mem_getD hx
            rw [hall i (by omega)]
            decide
          rw [this]
          rfl
        subst e
        clear hall hb hk hkn hv
        go_wp2_with fail
        go_ret
        exact ⟨rfl, unhide HB⟩
  cases p1
  case true =>
    have hc1 : W7.cell? ⟨w.heap.size, 1, none⟩ = some (.int .i64 s.g.c) := (unhide HV).cell rfl
    have hc7 : W7.cell? ⟨w.heap.size, 7, none⟩ = some (.int .i64 s.hp) := (unhide HV).cell rfl
    have hc8 : W7.cell? ⟨w.heap.size, 8, none⟩ = some (.int .i64 s.ap) := (unhide HV).cell rfl
    go_wp2_with fail
    refine (unhide HL).mono ?_; rintro x W8 ⟨rfl, rfl⟩
    cases b10
    case true =>
      go_wp2_with fail
      go_ret
      exact ⟨by rw [unhide HR]; simp, unhide HB⟩
    cases p2
    case true =>
      go_wp2_with fail
      go_ret
      exact ⟨by rw [unhide HR]; simp, unhide HB⟩
    have hc9 : W8.cell? ⟨w.heap.size, 9, none⟩ = some (.slice a.hs s.hs.length a.nhs) := (unhide HV).cell rfl
    have HC := hide (rsquad_any W8 a.hs s.hs.length a.nhs s.hs rfl ((unhide F1).keep (unhide HB)))
    rw [← unhide E6] at HC
    go_wp2_with fail
    refine (unhide HC).mono ?_; rintro x W9 ⟨rfl, hG⟩
    clear HC hc9
    have HV := hide ((unhide HV).keep hG); have HB := hide (thenB (unhide HB) hG)
    clear hG
    cases b6
    case false =>
      skip
      go_wp2_with fail
      go_ret
      exact ⟨by rw [unhide HR]; simp, unhide HB⟩
    have hc10 : W9.cell? ⟨w.heap.size, 10, none⟩ = some (.slice a.as_ s.as_.length a.nas) := (unhide HV).cell rfl
    have HC := hide (rsquad_any W9 a.as_ s.as_.length a.nas s.as_ rfl ((unhide F2).keep (unhide HB)))
    rw [← unhide E7] at HC
    go_wp2_with fail
    refine (unhide HC).mono ?_; rintro x W10 ⟨rfl, hG⟩
    clear HC hc10
    have HV := hide ((unhide HV).keep hG); have HB := hide (thenB (unhide HB) hG)
    clear hG
    cases b7
    case false =>
      skip
      go_wp2_with fail
      go_ret
      exact ⟨by rw [unhide HR]; simp, unhide HB⟩
    have hc9 : W10.cell? ⟨w.heap.size, 9, none⟩ = some (.slice a.hs s.hs.length a.nhs) := (unhide HV).cell rfl
    have hc11 : W10.cell? ⟨w.heap.size, 11, none⟩ = some (.slice a.hc s.hc.length a.nhc) := (unhide HV).cell rfl
    have HC := hide (rcards_any W10 a.hc s.hc.length a.nhc s.hc rfl ((unhide F3).keep (unhide HB)) a.hs s.hs.length a.nhs s.hs rfl ((unhide F1).keep (unhide HB)))
    rw [← unhide E8] at HC
    go_wp2_with fail
    refine (unhide HC).mono ?_; rintro x W11 ⟨rfl, rfl⟩
    clear HC hc9 hc11
    cases b8
    case false =>
      skip
      go_wp2_with fail
      go_ret
      exact ⟨by rw [unhide HR]; simp, unhide HB⟩
    have hc10 : W11.cell? ⟨w.heap.size, 10, none⟩ = some (.slice a.as_ s.as_.length a.nas) := (unhide HV).cell rfl
    have hc12 : W11.cell? ⟨w.heap.size, 12, none⟩ = some (.slice a.ac s.ac.length a.nac) := (unhide HV).cell rfl
    have HC := hide (rcards_any W11 a.ac s.ac.length a.nac s.ac rfl ((unhide F4).keep (unhide HB)) a.as_ s.as_.length a.nas s.as_ rfl ((unhide F2).keep (unhide HB)))
    rw [← unhide E9] at HC
    go_wp2_with fail
    refine (unhide HC).mono ?_; rintro x W12 ⟨rfl, rfl⟩
    clear HC hc10 hc12
    cases b9
    case false =>
      skip
      go_wp2_with fail
      go_ret
      exact ⟨by rw [unhide HR]; simp, unhide HB⟩
    have kc : (s.hs.length : Int) ≤ (a.nhs : Int) := by have := (unhide F1).cap; omega
    have HRT : Hid (R = !b11) := by
      have : R = !b11 := by rw [unhide HR]; simp
      exact this
    go_wp2_with fail
    go_loopg [4] s.hs.length (fun g y4 wx => ∃ k : Nat, y4 = .int .i64 (k : Int) ∧ g + k = s.hs.length ∧ (∀ i, i < k → s.as_.contains (s.hs.getD i 0) = false) ∧ VsAt wx w.heap.size 31 (sC s a) ∧ Below w.heap.size w wx)
    case atStart => exact ⟨0, rfl, by omega, fun i h => by omega, unhide HV, unhide HB⟩
    case round =>
      obtain ⟨k, rfl, hk, hall, hv, hb⟩ := hrel
      have HALL := hide hall
      have HV := hide hv; have HB := hide hb
      have hc9 : wr.cell? ⟨w.heap.size, 9, none⟩ = some (.slice a.hs s.hs.length a.nhs) := hv.cell rfl
      by_cases hkn : k < s.hs.length
      · obtain ⟨g, rfl⟩ : ∃ g, gk = g + 1 := ⟨gk - 1, by omega⟩
        have i1 : (k : Int) < (s.hs.length : Int) := by omega
        have i0 : (0 : Int) ≤ (k : Int) := Int.natCast_nonneg _
        have wk : IntKind.i64.wrap ((k : Int) + 1) = ((k + 1 : Nat) : Int) := (IntWalk.i64_in _ (by have := (unhide F1).few; omega)).trans (by omega)
        obtain ⟨b, o, hbo, hc⟩ := ((unhide F1).it.keep hb).at_ (fun e => by rw [e] at hkn; simp at hkn)
        have h1 := hc k hkn
        obtain ⟨x, hx⟩ : ∃ x, x = s.hs.getD k 0 := ⟨_, rfl⟩
        rw [← hx] at h1
        have HX : Hid (x = s.hs.getD k 0 ∧ k < s.hs.length ∧ g + 1 + k = s.hs.length) := ⟨hx, hkn, hk⟩
        have K1 := hide h1
        obtain ⟨z, hz⟩ : ∃ z, z = s.as_.contains x := ⟨_, rfl⟩
        have HZ := hide hz
        obtain ⟨W, hW⟩ : ∃ W, W = wr.drewN 1 := ⟨_, rfl⟩
        have HW : Hid (W = wr.drewN 1) := hW
        have hS : Below wr.heap.size wr W := below_named HW
        have hcal := rmember_any W a.as_ s.as_.length a.nas s.as_ rfl (((unhide F2).keep hb).keep hS) x
        rw [← hz] at hcal
        have HC := hide hcal; have HBO := hide hbo
        clear hc h1 hx hkn hk hall hb hv hW hz hcal hbo
        go_upto_region 11 with fail
        clear hc9
        refine held (S := Below wr.heap.size wr) W HW (by kernel_rfl) ?_
        refine wpAnyH_take (i := 0) (v := ?_) rfl (by kernel_rfl) (by kernel_rfl) (by kernel_rfl) (fun _ _ _ h => h) (Or.inl ⟨by kernel_rfl, ?_⟩) (by assumption) ?_
        rotate_left
        · intro Wt hSt
          go_simp
          try with_reducible rfl
        try simp only [List.getElem_toArray, List.getElem_cons_zero, List.getElem_cons_succ, Act.put, List.setIfInBounds_toArray, List.set_cons_zero, List.set_cons_succ]
        refine wpAnyH_take (i := 1) (v := ?_) rfl (by kernel_rfl) (by kernel_rfl) (by kernel_rfl) (fun _ _ _ h => h) (Or.inl ⟨by kernel_rfl, ?_⟩) (by assumption) ?_
        rotate_left
        · intro Wt hSt
          have hct := (show Wt.cell? ⟨w.heap.size, 10, none⟩ = some (.slice a.as_ s.as_.length a.nas) from ((unhide HV).keep hSt).cell rfl)
          go_simp
          try with_reducible rfl
        try simp only [List.getElem_toArray, List.getElem_cons_zero, List.getElem_cons_succ, Act.put, List.setIfInBounds_toArray, List.set_cons_zero, List.set_cons_succ]
        refine wpAnyH_take (i := 2) (v := ?_) rfl (by kernel_rfl) (by kernel_rfl) (by kernel_rfl) (fun _ _ _ h => h) (Or.inl ⟨by kernel_rfl, ?_⟩) (by assumption) ?_
        rotate_left
        · intro Wt hSt
          go_simp
          try with_reducible rfl
        try simp only [List.getElem_toArray, List.getElem_cons_zero, List.getElem_cons_succ, Act.put, List.setIfInBounds_toArray, List.set_cons_zero, List.set_cons_succ]
        refine wpAnyH_take (i := 3) (v := ?_) rfl (by kernel_rfl) (by kernel_rfl) (by kernel_rfl) (fun _ _ _ h => h) (Or.inl ⟨by kernel_rfl, ?_⟩) (by assumption) ?_
        rotate_left
        · intro Wt hSt
          have hct := (show Wt.cell? ⟨w.heap.size, 9, none⟩ = some (.slice (some ⟨b, o, none⟩) s.hs.length a.nhs) from by rw [← unhide HBO]; exact ((unhide HV).keep hSt).cell rfl)
          go_simp
          try with_reducible rfl
        try simp only [List.getElem_toArray, List.getElem_cons_zero, List.getElem_cons_succ, Act.put, List.setIfInBounds_toArray, List.set_cons_zero, List.set_cons_succ]
        refine wpAnyH_take (i := 4) (v := ?_) rfl (by kernel_rfl) (by kernel_rfl) (by kernel_rfl) (fun _ _ _ h => h) (Or.inl ⟨by kernel_rfl, ?_⟩) (by assumption) ?_
        rotate_left
        · intro Wt hSt
          go_simp
          try with_reducible rfl
        try simp only [List.getElem_toArray, List.getElem_cons_zero, List.getElem_cons_succ, Act.put, List.setIfInBounds_toArray, List.set_cons_zero, List.set_cons_succ]
        refine wpAnyH_take (i := 5) (v := ?_) rfl (by kernel_rfl) (by kernel_rfl) (by kernel_rfl) (fun _ _ _ h => h) (Or.inl ⟨by kernel_rfl, ?_⟩) (by assumption) ?_
        rotate_left
        · intro Wt hSt
          go_simp
          try with_reducible rfl
        try simp only [List.getElem_toArray, List.getElem_cons_zero, List.getElem_cons_succ, Act.put, List.setIfInBounds_toArray, List.set_cons_zero, List.set_cons_succ]
        refine wpAnyH_take (i := 6) (v := ?_) rfl (by kernel_rfl) (by kernel_rfl) (by kernel_rfl) (fun _ _ _ h => h) (Or.inl ⟨by kernel_rfl, ?_⟩) (by assumption) ?_
        rotate_left
        · intro Wt hSt
          have hct := (show Wt.cell? ⟨b, o + k, none⟩ = some (.int .i64 x) from (hSt.cell (p := ⟨b, o + k, none⟩) (lt_of_cell (unhide K1))).trans (unhide K1))
          go_simp
          try with_reducible rfl
        try simp only [List.getElem_toArray, List.getElem_cons_zero, List.getElem_cons_succ, Act.put, List.setIfInBounds_toArray, List.set_cons_zero, List.set_cons_succ]
        refine wpAnyH_one 7 _ rfl (by kernel_rfl) (by kernel_rfl) ?_
        skip
        intro Kt hK
        go_simp
        refine (unhide HC).mono ?_; rintro e W2 ⟨rfl, rfl⟩
        dsimp only
        refine hK _ _ hS ?_
        clear hK Kt
        try simp only [List.getElem_toArray, List.getElem_cons_zero, List.getElem_cons_succ, Act.put, List.setIfInBounds_toArray, List.set_cons_zero, List.set_cons_succ]
        refine wpAnyH_chainOf [] _ _ _ (by kernel_rfl) (by kernel_rfl) ?_
        refine wpChain_nil ?_
        have HS := hide (thenB (unhide HB) hS)
        have HV2 := hide ((unhide HV).keep hS)
        clear hS
        cases z
        case true =>
          have e : R = false := by
            rw [unhide HRT, unhide E11]
            have h := unhide HX
            have : (s.hs.any fun x => s.as_.contains x) = true := by
              rw [List.any_eq_true]
              exact ⟨s.hs.getD k 0, getD_mem h.2.1, by rw [← h.1, ← unhide HZ]⟩
            rw [this]
            rfl
          subst e
          go_wp2_with fail
          go_ret
          exact ⟨rfl, unhide HS⟩
        go_wp2_with fail
        go_roundg g
        case measure => omega
        case rel =>
          have h := unhide HX
          refine ⟨k + 1, rfl, by omega, fun i h1 => ?_, unhide HV2, unhide HS⟩
          by_cases hi : i < k
          · exact (unhide HALL) i hi
          · obtain rfl : i = k := by omega
            rw [← h.1, ← unhide HZ]
      · have i1 : ¬ (k : Int) < (s.hs.length : Int) := by omega
        have e : R = true := by
          rw [unhide HRT, unhide E11]
          have : (s.hs.any fun x => s.as_.contains x) = false := by
            rw [List.any_eq_false]
            intro x hx
            obtain ⟨i, hi, rfl⟩ := mem_getD hx
            rw [hall i (by omega)]
            decide
          rw [this]
          rfl
        subst e
        clear hall hb hk hkn hv
        go_wp2_with fail
        go_ret
        exact ⟨rfl, unhide HB⟩
  have hc7 : W7.cell? ⟨w.heap.size, 7, none⟩ = some (.int .i64 s.hp) := (unhide HV).cell rfl
  have hc8 : W7.cell? ⟨w.heap.size, 8, none⟩ = some (.int .i64 s.ap) := (unhide HV).cell rfl
  have hc9 : W7.cell? ⟨w.heap.size, 9, none⟩ = some (.slice a.hs s.hs.length a.nhs) := (unhide HV).cell rfl
  have HC := hide (rsquad_any W7 a.hs s.hs.length a.nhs s.hs rfl ((unhide F1).keep (unhide HB)))
  rw [← unhide E6] at HC
  go_wp2_with fail
  refine (unhide HC).mono ?_; rintro x W8 ⟨rfl, hG⟩
  clear HC hc9
  have HV := hide ((unhide HV).keep hG); have HB := hide (thenB (unhide HB) hG)
  clear hG
  cases b6
  case false =>
    skip
    go_wp2_with fail
    go_ret
    exact ⟨by rw [unhide HR]; simp, unhide HB⟩
  have hc10 : W8.cell? ⟨w.heap.size, 10, none⟩ = some (.slice a.as_ s.as_.length a.nas) := (unhide HV).cell rfl
  have HC := hide (rsquad_any W8 a.as_ s.as_.length a.nas s.as_ rfl ((unhide F2).keep (unhide HB)))
  rw [← unhide E7] at HC
  go_wp2_with fail
  refine (unhide HC).mono ?_; rintro x W9 ⟨rfl, hG⟩
  clear HC hc10
  have HV := hide ((unhide HV).keep hG); have HB := hide (thenB (unhide HB) hG)
  clear hG
  cases b7
  case false =>
    skip
    go_wp2_with fail
    go_ret
    exact ⟨by rw [unhide HR]; simp, unhide HB⟩
  have hc9 : W9.cell? ⟨w.heap.size, 9, none⟩ = some (.slice a.hs s.hs.length a.nhs) := (unhide HV).cell rfl
  have hc11 : W9.cell? ⟨w.heap.size, 11, none⟩ = some (.slice a.hc s.hc.length a.nhc) := (unhide HV).cell rfl
  have HC := hide (rcards_any W9 a.hc s.hc.length a.nhc s.hc rfl ((unhide F3).keep (unhide HB)) a.hs s.hs.length a.nhs s.hs rfl ((unhide F1).keep (unhide HB)))
  rw [← unhide E8] at HC
  go_wp2_with fail
  refine (unhide HC).mono ?_; rintro x W10 ⟨rfl, rfl⟩
  clear HC hc9 hc11
  cases b8
  case false =>
    skip
    go_wp2_with fail
    go_ret
    exact ⟨by rw [unhide HR]; simp, unhide HB⟩
  have hc10 : W10.cell? ⟨w.heap.size, 10, none⟩ = some (.slice a.as_ s.as_.length a.nas) := (unhide HV).cell rfl
  have hc12 : W10.cell? ⟨w.heap.size, 12, none⟩ = some (.slice a.ac s.ac.length a.nac) := (unhide HV).cell rfl
  have HC := hide (rcards_any W10 a.ac s.ac.length a.nac s.ac rfl ((unhide F4).keep (unhide HB)) a.as_ s.as_.length a.nas s.as_ rfl ((unhide F2).keep (unhide HB)))
  rw [← unhide E9] at HC
  go_wp2_with fail
  refine (unhide HC).mono ?_; rintro x W11 ⟨rfl, rfl⟩
  clear HC hc10 hc12
  cases b9
  case false =>
    skip
    go_wp2_with fail
    go_ret
    exact ⟨by rw [unhide HR]; simp, unhide HB⟩
  have kc : (s.hs.length : Int) ≤ (a.nhs : Int) := by have := (unhide F1).cap; omega
  have HRT : Hid (R = !b11) := by
    have : R = !b11 := by rw [unhide HR]; simp
    exact this
  go_wp2_with fail
  go_loopg [4] s.hs.length (fun g y4 wx => ∃ k : Nat, y4 = .int .i64 (k : Int) ∧ g + k = s.hs.length ∧ (∀ i, i < k → s.as_.contains (s.hs.getD i 0) = false) ∧ VsAt wx w.heap.size 31 (sC s a) ∧ Below w.heap.size w wx)
  case atStart => exact ⟨0, rfl, by omega, fun i h => by omega, unhide HV, unhide HB⟩
  case round =>
    obtain ⟨k, rfl, hk, hall, hv, hb⟩ := hrel
    have HALL := hide hall
    have HV := hide hv; have HB := hide hb
    have hc9 : wr.cell? ⟨w.heap.size, 9, none⟩ = some (.slice a.hs s.hs.length a.nhs) := hv.cell rfl
    by_cases hkn : k < s.hs.length
    · obtain ⟨g, rfl⟩ : ∃ g, gk = g + 1 := ⟨gk - 1, by omega⟩
      have i1 : (k : Int) < (s.hs.length : Int) := by omega
      have i0 : (0 : Int) ≤ (k : Int) := Int.natCast_nonneg _
      have wk : IntKind.i64.wrap ((k : Int) + 1) = ((k + 1 : Nat) : Int) := (IntWalk.i64_in _ (by have := (unhide F1).few; omega)).trans (by omega)
      obtain ⟨b, o, hbo, hc⟩ := ((unhide F1).it.keep hb).at_ (fun e => by rw [e] at hkn; simp at hkn)
      have h1 := hc k hkn
      obtain ⟨x, hx⟩ : ∃ x, x = s.hs.getD k 0 := ⟨_, rfl⟩
      rw [← hx] at h1
      have HX : Hid (x = s.hs.getD k 0 ∧ k < s.hs.length ∧ g + 1 + k = s.hs.length) := ⟨hx, hkn, hk⟩
      have K1 := hide h1
      obtain ⟨z, hz⟩ : ∃ z, z = s.as_.contains x := ⟨_, rfl⟩
      have HZ := hide hz
      obtain ⟨W, hW⟩ : ∃ W, W = wr.drewN 1 := ⟨_, rfl⟩
      have HW : Hid (W = wr.drewN 1) := hW
      have hS : Below wr.heap.size wr W := below_named HW
      have hcal := rmember_any W a.as_ s.as_.length a.nas s.as_ rfl (((unhide F2).keep hb).keep hS) x
      rw [← hz] at hcal
      have HC := hide hcal; have HBO := hide hbo
      clear hc h1 hx hkn hk hall hb hv hW hz hcal hbo
      go_upto_region 11 with fail
      clear hc9
      refine held (S := Below wr.heap.size wr) W HW (by kernel_rfl) ?_
      refine wpAnyH_take (i := 0) (v := ?_) rfl (by kernel_rfl) (by kernel_rfl) (by kernel_rfl) (fun _ _ _ h => h) (Or.inl ⟨by kernel_rfl, ?_⟩) (by assumption) ?_
      rotate_left
      · intro Wt hSt
        go_simp
        try with_reducible rfl
      try simp only [List.getElem_toArray, List.getElem_cons_zero, List.getElem_cons_succ, Act.put, List.setIfInBounds_toArray, List.set_cons_zero, List.set_cons_succ]
      refine wpAnyH_take (i := 1) (v := ?_) rfl (by kernel_rfl) (by kernel_rfl) (by kernel_rfl) (fun _ _ _ h => h) (Or.inl ⟨by kernel_rfl, ?_⟩) (by assumption) ?_
      rotate_left
      · intro Wt hSt
        have hct := (show Wt.cell? ⟨w.heap.size, 10, none⟩ = some (.slice a.as_ s.as_.length a.nas) from ((unhide HV).keep hSt).cell rfl)
        go_simp
        try with_reducible rfl
      try simp only [List.getElem_toArray, List.getElem_cons_zero, List.getElem_cons_succ, Act.put, List.setIfInBounds_toArray, List.set_cons_zero, List.set_cons_succ]
      refine wpAnyH_take (i := 2) (v := ?_) rfl (by kernel_rfl) (by kernel_rfl) (by kernel_rfl) (fun _ _ _ h => h) (Or.inl ⟨by kernel_rfl, ?_⟩) (by assumption) ?_
      rotate_left
      · intro Wt hSt
        go_simp
        try with_reducible rfl
      try simp only [List.getElem_toArray, List.getElem_cons_zero, List.getElem_cons_succ, Act.put, List.setIfInBounds_toArray, List.set_cons_zero, List.set_cons_succ]
      refine wpAnyH_take (i := 3) (v := ?_) rfl (by kernel_rfl) (by kernel_rfl) (by kernel_rfl) (fun _ _ _ h => h) (Or.inl ⟨by kernel_rfl, ?_⟩) (by assumption) ?_
      rotate_left
      · intro Wt hSt
        have hct := (show Wt.cell? ⟨w.heap.size, 9, none⟩ = some (.slice (some ⟨b, o, none⟩) s.hs.length a.nhs) from by rw [← unhide HBO]; exact ((unhide HV).keep hSt).cell rfl)
        go_simp
        try with_reducible rfl
      try simp only [List.getElem_toArray, List.getElem_cons_zero, List.getElem_cons_succ, Act.put, List.setIfInBounds_toArray, List.set_cons_zero, List.set_cons_succ]
      refine wpAnyH_take (i := 4) (v := ?_) rfl (by kernel_rfl) (by kernel_rfl) (by kernel_rfl) (fun _ _ _ h => h) (Or.inl ⟨by kernel_rfl, ?_⟩) (by assumption) ?_
      rotate_left
      · intro Wt hSt
        go_simp
        try with_reducible rfl
      try simp only [List.getElem_toArray, List.getElem_cons_zero, List.getElem_cons_succ, Act.put, List.setIfInBounds_toArray, List.set_cons_zero, List.set_cons_succ]
      refine wpAnyH_take (i := 5) (v := ?_) rfl (by kernel_rfl) (by kernel_rfl) (by kernel_rfl) (fun _ _ _ h => h) (Or.inl ⟨by kernel_rfl, ?_⟩) (by assumption) ?_
      rotate_left
      · intro Wt hSt
        go_simp
        try with_reducible rfl
      try simp only [List.getElem_toArray, List.getElem_cons_zero, List.getElem_cons_succ, Act.put, List.setIfInBounds_toArray, List.set_cons_zero, List.set_cons_succ]
      refine wpAnyH_take (i := 6) (v := ?_) rfl (by kernel_rfl) (by kernel_rfl) (by kernel_rfl) (fun _ _ _ h => h) (Or.inl ⟨by kernel_rfl, ?_⟩) (by assumption) ?_
      rotate_left
      · intro Wt hSt
        have hct := (show Wt.cell? ⟨b, o + k, none⟩ = some (.int .i64 x) from (hSt.cell (p := ⟨b, o + k, none⟩) (lt_of_cell (unhide K1))).trans (unhide K1))
        go_simp
        try with_reducible rfl
      try simp only [List.getElem_toArray, List.getElem_cons_zero, List.getElem_cons_succ, Act.put, List.setIfInBounds_toArray, List.set_cons_zero, List.set_cons_succ]
      refine wpAnyH_one 7 _ rfl (by kernel_rfl) (by kernel_rfl) ?_
      skip
      intro Kt hK
      go_simp
      refine (unhide HC).mono ?_; rintro e W2 ⟨rfl, rfl⟩
      dsimp only
      refine hK _ _ hS ?_
      clear hK Kt
      try simp only [List.getElem_toArray, List.getElem_cons_zero, List.getElem_cons_succ, Act.put, List.setIfInBounds_toArray, List.set_cons_zero, List.set_cons_succ]
      refine wpAnyH_chainOf [] _ _ _ (by kernel_rfl) (by kernel_rfl) ?_
      refine wpChain_nil ?_
      have HS := hide (thenB (unhide HB) hS)
      have HV2 := hide ((unhide HV).keep hS)
      clear hS
      cases z
      case true =>
        have e : R = false := by
          rw [unhide HRT, unhide E11]
          have h := unhide HX
          have : (s.hs.any fun x => s.as_.contains x) = true := by
            rw [List.any_eq_true]
            exact ⟨s.hs.getD k 0, getD_mem h.2.1, by rw [← h.1, ← unhide HZ]⟩
          rw [this]
          rfl
        subst e
        go_wp2_with fail
        go_ret
        exact ⟨rfl, unhide HS⟩
      go_wp2_with fail
      go_roundg g
      case measure => omega
      case rel =>
        have h := unhide HX
        refine ⟨k + 1, rfl, by omega, fun i h1 => ?_, unhide HV2, unhide HS⟩
        by_cases hi : i < k
        · exact (unhide HALL) i hi
        · obtain rfl : i = k := by omega
          rw [← h.1, ← unhide HZ]
    · have i1 : ¬ (k : Int) < (s.hs.length : Int) := by omega
      have e : R = true := by
        rw [unhide HRT, unhide E11]
        have : (s.hs.any fun x => s.as_.contains x) = false := by
          rw [List.any_eq_false]
          intro x hx
          obtain ⟨i, hi, rfl⟩ := mem_getD hx
          rw [hall i (by omega)]
          decide
        rw [this]
        rfl
      subst e
      clear hall hb hk hkn hv
      go_wp2_with fail
      go_ret
      exact ⟨rfl, unhide HB⟩
end Go.Proofs.YtdmaopfaeigelaaGreatDoor
namespace Go.Proofs.YtdmaopfaeigelaaGreatDoor
set_option linter.unusedSimpArgs false
set_option linter.unusedVariables false
set_option maxRecDepth 100000
open Go.RowKit

theorem ruEq_comm (x y : Ru) : ruEq x y = ruEq y x := by
  unfold ruEq
  simp only [show ∀ a b : Int, decide (a = b) = decide (b = a) from fun a b => by by_cases h : a = b <;> simp [h, eq_comm]]
/-- what the ruling of a kind is compared with -/
def rOnly (k : Int) (r : Ru) : Ru := { rOwn k r with cas := r.cas, ins := r.ins, kind := r.kind }
theorem rul_eq (r : Ru) (k : Int) (hk : r.kind = k) (h1 : 1 ≤ k) (h2 : k ≤ 8) : okRuling r = (inR r.cas 1 1048576 && inR r.ins 1 3 && rHold k r && ruEq (rOnly k r) r) := by
  subst hk
  unfold okRuling rOnly
  rw [ruEq_comm r]
  unfold inR
  rw [decide_eq_true h1, decide_eq_true h2]
  rfl
theorem rul_no (r : Ru) (h : ¬ (1 ≤ r.kind ∧ r.kind ≤ 8)) : okRuling r = false := by
  unfold okRuling inR
  have : (decide (1 ≤ r.kind) && decide (r.kind ≤ 8)) = false := by
    rw [Bool.and_eq_false_iff, decide_eq_false_iff_not, decide_eq_false_iff_not]
    omega
  rw [this]
  rfl
theorem infoIv : (Tryz.prog.info? 33).map (·.size) = some 2 := by kernel_rfl
theorem rintv_any (p q : Int) (w : World) : Calls Tryz.prog 140 #[.agg #[.int .i64 p, .int .i64 q]] w fun x w' => x = .returned (.bool (okInt p q)) ∧ Below w.heap.size w w' := rinterval_any p q w
set_option maxHeartbeats 8000000 in
theorem rruling_any (r : Ru) (w : World) : Calls Tryz.prog 68 #[.agg (rC r).toArray] w fun x w' => x = .returned (.bool (okRuling r)) ∧ Below w.heap.size w w' := by
  obtain ⟨R, hR⟩ : ∃ R, R = okRuling r := ⟨_, rfl⟩
  rw [← hR]
  obtain ⟨b0, hb0⟩ : ∃ b, b = inR r.cas 1 1048576 := ⟨_, rfl⟩
  obtain ⟨b1, hb1⟩ : ∃ b, b = inR r.ins 1 3 := ⟨_, rfl⟩
  have HR := hide hR
  have E0 := hide hb0; have E1 := hide hb1
  have HR01 : Hid ((b0 && b1) = false → R = false) := by
    have : (b0 && b1) = false → R = false := by
      intro h
      rw [hR]
      unfold okRuling
      rw [← hb0, ← hb1]
      cases b0
      · simp
      · cases b1
        · simp
        · cases h
    exact this
  clear hR hb0 hb1
  obtain ⟨cs, hcs⟩ : ∃ zz, zz = rC r := ⟨_, rfl⟩
  rw [← hcs]
  have HCS := hide hcs
  clear hcs
  go_enter Tryz.func68, Tryz.ntmps68
  go_upto_region 1 with fail
  generalize hX1 : w.alloc _ = W1
  have hB1 : Below w.heap.size w W1 := hX1 ▸ (Below.refl _ _).alloc (Nat.le_refl _) _
  have HV := hide (boxedV w W1 cs 35 (by rw [← hX1]; rfl))
  have hz1 : W1.heap.size = w.heap.size + 1 := by rw [← hX1]; show (w.heap.push _).size = _; rw [Array.size_push]
  have HZ1 := hide hz1
  rw [unhide HCS] at HV
  have HB := hide hB1
  clear hX1 hB1 HCS hz1
  have hc0 : W1.cell? ⟨w.heap.size, 0, none⟩ = some (.int .i64 r.cas) := (unhide HV).cell rfl
  have hc1 : W1.cell? ⟨w.heap.size, 1, none⟩ = some (.int .i64 r.ins) := (unhide HV).cell rfl
  have hc2 : W1.cell? ⟨w.heap.size, 2, none⟩ = some (.int .i64 r.kind) := (unhide HV).cell rfl
  have HC := hide (rwithin_any r.cas 1 1048576 W1)
  rw [← unhide E0] at HC
  go_wp2_with fail
  refine (unhide HC).mono ?_; rintro x W2 ⟨rfl, rfl⟩
  clear HC
  cases b0
  case false =>
    have e : R = false := (unhide HR01) rfl
    subst e
    go_wp2_with fail
    go_ret
    exact ⟨rfl, unhide HB⟩
  have HC := hide (rwithin_any r.ins 1 3 W2)
  rw [← unhide E1] at HC
  go_wp2_with fail
  refine (unhide HC).mono ?_; rintro x W3 ⟨rfl, rfl⟩
  clear HC
  cases b1
  case false =>
    have e : R = false := (unhide HR01) rfl
    subst e
    go_wp2_with fail
    go_ret
    exact ⟨rfl, unhide HB⟩
  go_upto_region 3 with fail
  refine wp_region_lit ?_
  refine wpList_plain rfl fun Kt hKt => ?_
  go_simp
  refine hKt _ _ ?_
  clear hKt Kt
  try simp only [List.getElem_toArray, List.getElem_cons_zero, List.getElem_cons_succ, Act.put, List.setIfInBounds_toArray, List.set_cons_zero, List.set_cons_succ]
  refine wpList_plain rfl fun Kt hKt => ?_
  go_simp
  refine hKt _ _ ?_
  clear hKt Kt
  try simp only [List.getElem_toArray, List.getElem_cons_zero, List.getElem_cons_succ, Act.put, List.setIfInBounds_toArray, List.set_cons_zero, List.set_cons_succ]
  refine wpList_plain rfl fun Kt hKt => ?_
  go_simp
  refine hKt _ _ ?_
  clear hKt Kt
  try simp only [List.getElem_toArray, List.getElem_cons_zero, List.getElem_cons_succ, Act.put, List.setIfInBounds_toArray, List.set_cons_zero, List.set_cons_succ]
  refine wpList_plain rfl fun Kt hKt => ?_
  go_simp
  refine hKt _ _ ?_
  clear hKt Kt
  try simp only [List.getElem_toArray, List.getElem_cons_zero, List.getElem_cons_succ, Act.put, List.setIfInBounds_toArray, List.set_cons_zero, List.set_cons_succ]
  refine wpList_plain rfl fun Kt hKt => ?_
  go_simp
  refine hKt _ _ ?_
  clear hKt Kt
  try simp only [List.getElem_toArray, List.getElem_cons_zero, List.getElem_cons_succ, Act.put, List.setIfInBounds_toArray, List.set_cons_zero, List.set_cons_succ]
  refine wpList_plain rfl fun Kt hKt => ?_
  go_simp
  refine hKt _ _ ?_
  clear hKt Kt
  try simp only [List.getElem_toArray, List.getElem_cons_zero, List.getElem_cons_succ, Act.put, List.setIfInBounds_toArray, List.set_cons_zero, List.set_cons_succ]
  refine wpList_plain rfl fun Kt hKt => ?_
  go_simp
  refine hKt _ _ ?_
  clear hKt Kt
  try simp only [List.getElem_toArray, List.getElem_cons_zero, List.getElem_cons_succ, Act.put, List.setIfInBounds_toArray, List.set_cons_zero, List.set_cons_succ]
  refine wpList_plain rfl fun Kt hKt => ?_
  go_simp
  generalize hX4 : W3.alloc _ = W4
  have hB4 : Below W3.heap.size W3 W4 := hX4 ▸ (Below.refl _ _).alloc (Nat.le_refl _) _
  have hv4 := boxedV W3 W4 (rC r0) 35 (by rw [← hX4]; rfl)
  rw [unhide HZ1] at hv4 ⊢
  refine hKt _ _ ?_
  clear hKt Kt hX4 hc0 hc1 hc2
  try simp only [List.getElem_toArray, List.getElem_cons_zero, List.getElem_cons_succ, Act.put, List.setIfInBounds_toArray, List.set_cons_zero, List.set_cons_succ]
  have HV := hide ((unhide HV).keep hB4); have HB := hide (thenB (unhide HB) hB4)
  refine wpList_vput rfl 35 (.tmp 3) (.tmp 21) rfl (w.heap.size + 1) 0 rfl (rC ⟨r.cas, r.ins, r.kind, g0, 0, 0, 0, 0, 0, 0, 0, 0, 0, 0⟩) rfl infoRu (rC_one _) _ (rC r0) hv4 (show 0 + 17 ≤ 17 by omega) ?_
  intro W5 HW5 HG5
  rw [spliceV_all _ _ (by rw [rC_length, rC_length])] at HW5
  have HV := hide ((unhide HV).grown (unhide HG5) (fun e => by injection e with e; omega))
  have HB := hide ((unhide HB).grown (unhide HG5) (unhide HB).size (fun i e => by injection e with e; omega))
  clear hB4 hv4 HG5 HR01 HZ1
  by_cases hk : r.kind = 1
  · have hkk : (r.kind == 1) = true := by rw [beq_iff_eq]; exact hk
    have HO := HW5
    clear HW5
    have HRK0 := hide (rul_eq r 1 hk (by decide) (by decide))
    obtain ⟨q0, hq0⟩ : ∃ b, b = (okGame r.g) := ⟨_, rfl⟩
    obtain ⟨q1, hq1⟩ : ∃ b, b = (r.club == r.g.h) := ⟨_, rfl⟩
    obtain ⟨q2, hq2⟩ : ∃ b, b = (r.club == r.g.a) := ⟨_, rfl⟩
    obtain ⟨z, hz⟩ : ∃ b, b = ruEq (rOnly 1 r) r := ⟨_, rfl⟩
    have HZZ : Hid (z = ruEq ⟨r.cas, r.ins, r.kind, r.g, r.club, 0, 0, 0, 0, 0, 0, 0, 0, 0⟩ r) := by
      have : z = ruEq ⟨r.cas, r.ins, r.kind, r.g, r.club, 0, 0, 0, 0, 0, 0, 0, 0, 0⟩ r := hz
      exact this
    have HRK : Hid (R = (true && true && (q0 && (q1 || q2)) && z)) := by
      have : R = (true && true && (q0 && (q1 || q2)) && z) := by
        rw [unhide HR, unhide HRK0, ← unhide E0, ← unhide E1, hz, hq0, hq1, hq2]
        show (true && true && (okGame r.g && (decide (r.club = r.g.h) || decide (r.club = r.g.a))) && _) = _
        rw [beq_dec, beq_dec]
      exact this
    have Q0 := hide hq0
    have Q1 := hide hq1
    have Q2 := hide hq2
    clear HRK0 hq0 hz
    replace hq1 := hq1.symm
    replace hq2 := hq2.symm
    have hc2 : W5.cell? ⟨w.heap.size, 2, none⟩ = some (.int .i64 r.kind) := (unhide HV).cell rfl
    clear hk
    go_upto_region 7 with fail
    refine wp_region_lit ?_
    refine wpList_plain rfl fun Kt hKt => ?_
    go_simp
    refine hKt _ _ ?_
    clear hKt Kt
    try simp only [List.getElem_toArray, List.getElem_cons_zero, List.getElem_cons_succ, Act.put, List.setIfInBounds_toArray, List.set_cons_zero, List.set_cons_succ]
    refine wpList_vload rfl 26 (.tmp 26) rfl w.heap.size 3 rfl _ Tryz.underlying26 rfl (gC r.g) infoGm ((unhide HV).mid 3 _ (fun j v hj => by match j, hj with | 0, h => exact h | 1, h => exact h | 2, h => exact h | 3, h => exact h | n + 4, h => exact absurd h (by simp [gC]))) ?_
    try simp only [List.getElem_toArray, List.getElem_cons_zero, List.getElem_cons_succ, Act.put, List.setIfInBounds_toArray, List.set_cons_zero, List.set_cons_succ]
    refine wpList_plain rfl fun Kt hKt => ?_
    go_simp
    refine hKt _ _ ?_
    clear hKt Kt
    try simp only [List.getElem_toArray, List.getElem_cons_zero, List.getElem_cons_succ, Act.put, List.setIfInBounds_toArray, List.set_cons_zero, List.set_cons_succ]
    refine wpList_vput rfl 26 (.tmp 28) (.tmp 27) rfl (w.heap.size + 1) 3 rfl (gC r.g) rfl infoGm (by intro v hv; simp only [gC, List.mem_cons, List.not_mem_nil, or_false] at hv; rcases hv with rfl | rfl | rfl | rfl <;> rfl) _ (rC ⟨r.cas, r.ins, r.kind, g0, 0, 0, 0, 0, 0, 0, 0, 0, 0, 0⟩) (unhide HO) (show 3 + 4 ≤ 17 by omega) ?_
    intro W6 HWx HGx
    have HO := hide (show VsAt W6 (w.heap.size + 1) 35 (rC ⟨r.cas, r.ins, r.kind, r.g, 0, 0, 0, 0, 0, 0, 0, 0, 0, 0⟩) from unhide HWx)
    have HV := hide ((unhide HV).grown (unhide HGx) (fun e => by injection e with e; omega))
    have HB := hide ((unhide HB).grown (unhide HGx) (unhide HB).size (fun i e => by injection e with e; omega))
    clear HWx HGx
    refine wpList_nil ?_
    clear hc2
    go_upto_region 8 with fail
    have hcs : W6.cell? ⟨w.heap.size, 7, none⟩ = some (.int .i64 r.club) := (unhide HV).cell rfl
    have hct : W6.cell? ⟨w.heap.size + 1, 7, none⟩ = some (.int .i64 0) := (unhide HO).cell rfl
    have hft := (unhide HO).free 7
    refine wp_region_lit ?_
    refine wpList_plain rfl fun Kt hKt => ?_
    go_simp
    refine hKt _ _ ?_
    clear hKt Kt
    try simp only [List.getElem_toArray, List.getElem_cons_zero, List.getElem_cons_succ, Act.put, List.setIfInBounds_toArray, List.set_cons_zero, List.set_cons_succ]
    refine wpList_plain rfl fun Kt hKt => ?_
    go_simp
    refine hKt _ _ ?_
    clear hKt Kt
    try simp only [List.getElem_toArray, List.getElem_cons_zero, List.getElem_cons_succ, Act.put, List.setIfInBounds_toArray, List.set_cons_zero, List.set_cons_succ]
    refine wpList_plain rfl fun Kt hKt => ?_
    go_simp
    refine hKt _ _ ?_
    clear hKt Kt
    try simp only [List.getElem_toArray, List.getElem_cons_zero, List.getElem_cons_succ, Act.put, List.setIfInBounds_toArray, List.set_cons_zero, List.set_cons_succ]
    refine wpList_plain rfl fun Kt hKt => ?_
    go_simp
    generalize hXs : World.setCell _ _ _ = W7
    have hGs : W6.grownBy W7 (some (w.heap.size + 1)) := hXs ▸ fgrownSet (World.grownBy.refl _ _) 7 _
    have HO := hide (show VsAt W7 (w.heap.size + 1) 35 (rC ⟨r.cas, r.ins, r.kind, r.g, r.club, 0, 0, 0, 0, 0, 0, 0, 0, 0⟩) from hXs ▸ (unhide HO).set 7 _)
    have HV := hide ((unhide HV).grown hGs (fun e => by injection e with e; omega))
    have HB := hide ((unhide HB).grown hGs (unhide HB).size (fun i e => by injection e with e; omega))
    refine hKt _ _ ?_
    clear hKt Kt hXs hGs hcs hct hft
    try simp only [List.getElem_toArray, List.getElem_cons_zero, List.getElem_cons_succ, Act.put, List.setIfInBounds_toArray, List.set_cons_zero, List.set_cons_succ]
    refine wpList_nil ?_
    have hc3 : W7.cell? ⟨w.heap.size, 3, none⟩ = some (.int .i64 r.g.s) := (unhide HV).cell rfl
    have hc4 : W7.cell? ⟨w.heap.size, 4, none⟩ = some (.int .i64 r.g.c) := (unhide HV).cell rfl
    have hc5 : W7.cell? ⟨w.heap.size, 5, none⟩ = some (.int .i64 r.g.h) := (unhide HV).cell rfl
    have hc6 : W7.cell? ⟨w.heap.size, 6, none⟩ = some (.int .i64 r.g.a) := (unhide HV).cell rfl
    have HC := hide (rgame_any r.g W7)
    rw [← unhide Q0] at HC
    go_wp2_with fail
    refine (unhide HC).mono ?_; rintro x W8 ⟨rfl, hG⟩
    clear HC hc3 hc4 hc5 hc6
    have HV := hide ((unhide HV).keep hG); have HO := hide ((unhide HO).keep hG); have HB := hide (thenB (unhide HB) hG)
    clear hG
    cases q0
    case false =>
      have e : R = false := by rw [unhide HRK]; simp
      subst e
      go_wp2_with fail
      go_ret
      exact ⟨rfl, unhide HB⟩
    have hc5 : W8.cell? ⟨w.heap.size, 5, none⟩ = some (.int .i64 r.g.h) := (unhide HV).cell rfl
    have hc6 : W8.cell? ⟨w.heap.size, 6, none⟩ = some (.int .i64 r.g.a) := (unhide HV).cell rfl
    have hc7 : W8.cell? ⟨w.heap.size, 7, none⟩ = some (.int .i64 r.club) := (unhide HV).cell rfl
    cases q1
    case true =>
      go_upto_region 38 with fail
      clear hc5 hc6 hc7
      refine wp_region_lit ?_
      refine wpList_plain rfl fun Kt hKt => ?_
      go_simp
      refine hKt _ _ ?_
      clear hKt Kt
      try simp only [List.getElem_toArray, List.getElem_cons_zero, List.getElem_cons_succ, Act.put, List.setIfInBounds_toArray, List.set_cons_zero, List.set_cons_succ]
      refine wpList_plain rfl fun Kt hKt => ?_
      go_simp
      refine hKt _ _ ?_
      clear hKt Kt
      try simp only [List.getElem_toArray, List.getElem_cons_zero, List.getElem_cons_succ, Act.put, List.setIfInBounds_toArray, List.set_cons_zero, List.set_cons_succ]
      refine wpList_vgload (by kernel_rfl) 35 (.tmp 3) rfl (w.heap.size + 1) 0 rfl _ Tryz.underlying35 rfl (rC ⟨r.cas, r.ins, r.kind, r.g, r.club, 0, 0, 0, 0, 0, 0, 0, 0, 0⟩) infoRu (unhide HO).range ?_
      try simp only [List.getElem_toArray, List.getElem_cons_zero, List.getElem_cons_succ, Act.put, List.setIfInBounds_toArray, List.set_cons_zero, List.set_cons_succ]
      refine wpList_vgload (by kernel_rfl) 35 (.tmp 1) rfl w.heap.size 0 rfl _ Tryz.underlying35 rfl (rC r) infoRu (unhide HV).range ?_
      try simp only [List.getElem_toArray, List.getElem_cons_zero, List.getElem_cons_succ, Act.put, List.setIfInBounds_toArray, List.set_cons_zero, List.set_cons_succ]
      refine wpList_cmpW (by kernel_rfl) 35 35 (.tmp 167) (.tmp 168) rfl _ _ z rfl rfl (ru_guard _ _ _ r _) (by rw [unhide HZZ]; exact ru_cmp _ r _) ?_
      try simp only [List.getElem_toArray, List.getElem_cons_zero, List.getElem_cons_succ, Act.put, List.setIfInBounds_toArray, List.set_cons_zero, List.set_cons_succ]
      have e : R = z := by rw [unhide HRK]; simp
      subst e
      go_wp2_with fail
      go_ret
      exact ⟨rfl, unhide HB⟩
    cases q2
    case false =>
      have e : R = false := by rw [unhide HRK]; simp
      subst e
      go_wp2_with fail
      go_ret
      exact ⟨rfl, unhide HB⟩
    go_upto_region 38 with fail
    refine wp_region_lit ?_
    refine wpList_plain rfl fun Kt hKt => ?_
    go_simp
    refine hKt _ _ ?_
    clear hKt Kt
    try simp only [List.getElem_toArray, List.getElem_cons_zero, List.getElem_cons_succ, Act.put, List.setIfInBounds_toArray, List.set_cons_zero, List.set_cons_succ]
    refine wpList_plain rfl fun Kt hKt => ?_
    go_simp
    refine hKt _ _ ?_
    clear hKt Kt
    try simp only [List.getElem_toArray, List.getElem_cons_zero, List.getElem_cons_succ, Act.put, List.setIfInBounds_toArray, List.set_cons_zero, List.set_cons_succ]
    refine wpList_vgload (by kernel_rfl) 35 (.tmp 3) rfl (w.heap.size + 1) 0 rfl _ Tryz.underlying35 rfl (rC ⟨r.cas, r.ins, r.kind, r.g, r.club, 0, 0, 0, 0, 0, 0, 0, 0, 0⟩) infoRu (unhide HO).range ?_
    try simp only [List.getElem_toArray, List.getElem_cons_zero, List.getElem_cons_succ, Act.put, List.setIfInBounds_toArray, List.set_cons_zero, List.set_cons_succ]
    refine wpList_vgload (by kernel_rfl) 35 (.tmp 1) rfl w.heap.size 0 rfl _ Tryz.underlying35 rfl (rC r) infoRu (unhide HV).range ?_
    try simp only [List.getElem_toArray, List.getElem_cons_zero, List.getElem_cons_succ, Act.put, List.setIfInBounds_toArray, List.set_cons_zero, List.set_cons_succ]
    refine wpList_cmpW (by kernel_rfl) 35 35 (.tmp 167) (.tmp 168) rfl _ _ z rfl rfl (ru_guard _ _ _ r _) (by rw [unhide HZZ]; exact ru_cmp _ r _) ?_
    try simp only [List.getElem_toArray, List.getElem_cons_zero, List.getElem_cons_succ, Act.put, List.setIfInBounds_toArray, List.set_cons_zero, List.set_cons_succ]
    have e : R = z := by rw [unhide HRK]; simp
    subst e
    go_wp2_with fail
    go_ret
    exact ⟨rfl, unhide HB⟩
  have hn1 : (r.kind == 1) = false := by rw [beq_eq_false_iff_ne]; exact hk
  have HN1 := hide hk
  clear hk
  by_cases hk : r.kind = 2
  · have hkk : (r.kind == 2) = true := by rw [beq_iff_eq]; exact hk
    have HO := HW5
    clear HW5
    have HRK0 := hide (rul_eq r 2 hk (by decide) (by decide))
    obtain ⟨q0, hq0⟩ : ∃ b, b = (okGame r.g) := ⟨_, rfl⟩
    obtain ⟨z, hz⟩ : ∃ b, b = ruEq (rOnly 2 r) r := ⟨_, rfl⟩
    have HZZ : Hid (z = ruEq ⟨r.cas, r.ins, r.kind, r.g, 0, 0, 0, 0, 0, 0, 0, 0, 0, 0⟩ r) := by
      have : z = ruEq ⟨r.cas, r.ins, r.kind, r.g, 0, 0, 0, 0, 0, 0, 0, 0, 0, 0⟩ r := hz
      exact this
    have HRK : Hid (R = (true && true && (q0) && z)) := by
      have : R = (true && true && (q0) && z) := by
        rw [unhide HR, unhide HRK0, ← unhide E0, ← unhide E1, hz, hq0]
        show (true && true && (okGame r.g) && _) = _
        rfl
      exact this
    have Q0 := hide hq0
    clear HRK0 hq0 hz
    have hc2 : W5.cell? ⟨w.heap.size, 2, none⟩ = some (.int .i64 r.kind) := (unhide HV).cell rfl
    clear hk
    go_upto_region 11 with fail
    refine wp_region_lit ?_
    refine wpList_plain rfl fun Kt hKt => ?_
    go_simp
    refine hKt _ _ ?_
    clear hKt Kt
    try simp only [List.getElem_toArray, List.getElem_cons_zero, List.getElem_cons_succ, Act.put, List.setIfInBounds_toArray, List.set_cons_zero, List.set_cons_succ]
    refine wpList_vload rfl 26 (.tmp 53) rfl w.heap.size 3 rfl _ Tryz.underlying26 rfl (gC r.g) infoGm ((unhide HV).mid 3 _ (fun j v hj => by match j, hj with | 0, h => exact h | 1, h => exact h | 2, h => exact h | 3, h => exact h | n + 4, h => exact absurd h (by simp [gC]))) ?_
    try simp only [List.getElem_toArray, List.getElem_cons_zero, List.getElem_cons_succ, Act.put, List.setIfInBounds_toArray, List.set_cons_zero, List.set_cons_succ]
    refine wpList_plain rfl fun Kt hKt => ?_
    go_simp
    refine hKt _ _ ?_
    clear hKt Kt
    try simp only [List.getElem_toArray, List.getElem_cons_zero, List.getElem_cons_succ, Act.put, List.setIfInBounds_toArray, List.set_cons_zero, List.set_cons_succ]
    refine wpList_vput rfl 26 (.tmp 55) (.tmp 54) rfl (w.heap.size + 1) 3 rfl (gC r.g) rfl infoGm (by intro v hv; simp only [gC, List.mem_cons, List.not_mem_nil, or_false] at hv; rcases hv with rfl | rfl | rfl | rfl <;> rfl) _ (rC ⟨r.cas, r.ins, r.kind, g0, 0, 0, 0, 0, 0, 0, 0, 0, 0, 0⟩) (unhide HO) (show 3 + 4 ≤ 17 by omega) ?_
    intro W6 HWx HGx
    have HO := hide (show VsAt W6 (w.heap.size + 1) 35 (rC ⟨r.cas, r.ins, r.kind, r.g, 0, 0, 0, 0, 0, 0, 0, 0, 0, 0⟩) from unhide HWx)
    have HV := hide ((unhide HV).grown (unhide HGx) (fun e => by injection e with e; omega))
    have HB := hide ((unhide HB).grown (unhide HGx) (unhide HB).size (fun i e => by injection e with e; omega))
    clear HWx HGx
    refine wpList_nil ?_
    clear hc2
    have hc3 : W6.cell? ⟨w.heap.size, 3, none⟩ = some (.int .i64 r.g.s) := (unhide HV).cell rfl
    have hc4 : W6.cell? ⟨w.heap.size, 4, none⟩ = some (.int .i64 r.g.c) := (unhide HV).cell rfl
    have hc5 : W6.cell? ⟨w.heap.size, 5, none⟩ = some (.int .i64 r.g.h) := (unhide HV).cell rfl
    have hc6 : W6.cell? ⟨w.heap.size, 6, none⟩ = some (.int .i64 r.g.a) := (unhide HV).cell rfl
    have HC := hide (rgame_any r.g W6)
    rw [← unhide Q0] at HC
    go_wp2_with fail
    refine (unhide HC).mono ?_; rintro x W7 ⟨rfl, hG⟩
    clear HC hc3 hc4 hc5 hc6
    have HV := hide ((unhide HV).keep hG); have HO := hide ((unhide HO).keep hG); have HB := hide (thenB (unhide HB) hG)
    clear hG
    cases q0
    case false =>
      have e : R = false := by rw [unhide HRK]; simp
      subst e
      go_wp2_with fail
      go_ret
      exact ⟨rfl, unhide HB⟩
    go_upto_region 38 with fail
    refine wp_region_lit ?_
    refine wpList_plain rfl fun Kt hKt => ?_
    go_simp
    refine hKt _ _ ?_
    clear hKt Kt
    try simp only [List.getElem_toArray, List.getElem_cons_zero, List.getElem_cons_succ, Act.put, List.setIfInBounds_toArray, List.set_cons_zero, List.set_cons_succ]
    refine wpList_plain rfl fun Kt hKt => ?_
    go_simp
    refine hKt _ _ ?_
    clear hKt Kt
    try simp only [List.getElem_toArray, List.getElem_cons_zero, List.getElem_cons_succ, Act.put, List.setIfInBounds_toArray, List.set_cons_zero, List.set_cons_succ]
    refine wpList_vgload (by kernel_rfl) 35 (.tmp 3) rfl (w.heap.size + 1) 0 rfl _ Tryz.underlying35 rfl (rC ⟨r.cas, r.ins, r.kind, r.g, 0, 0, 0, 0, 0, 0, 0, 0, 0, 0⟩) infoRu (unhide HO).range ?_
    try simp only [List.getElem_toArray, List.getElem_cons_zero, List.getElem_cons_succ, Act.put, List.setIfInBounds_toArray, List.set_cons_zero, List.set_cons_succ]
    refine wpList_vgload (by kernel_rfl) 35 (.tmp 1) rfl w.heap.size 0 rfl _ Tryz.underlying35 rfl (rC r) infoRu (unhide HV).range ?_
    try simp only [List.getElem_toArray, List.getElem_cons_zero, List.getElem_cons_succ, Act.put, List.setIfInBounds_toArray, List.set_cons_zero, List.set_cons_succ]
    refine wpList_cmpW (by kernel_rfl) 35 35 (.tmp 167) (.tmp 168) rfl _ _ z rfl rfl (ru_guard _ _ _ r _) (by rw [unhide HZZ]; exact ru_cmp _ r _) ?_
    try simp only [List.getElem_toArray, List.getElem_cons_zero, List.getElem_cons_succ, Act.put, List.setIfInBounds_toArray, List.set_cons_zero, List.set_cons_succ]
    have e : R = z := by rw [unhide HRK]; simp
    subst e
    go_wp2_with fail
    go_ret
    exact ⟨rfl, unhide HB⟩
  have hn2 : (r.kind == 2) = false := by rw [beq_eq_false_iff_ne]; exact hk
  have HN2 := hide hk
  clear hk
  by_cases hk : r.kind = 3
  · have hkk : (r.kind == 3) = true := by rw [beq_iff_eq]; exact hk
    have HO := HW5
    clear HW5
    have HRK0 := hide (rul_eq r 3 hk (by decide) (by decide))
    obtain ⟨q0, hq0⟩ : ∃ b, b = (okGame r.g) := ⟨_, rfl⟩
    obtain ⟨q1, hq1⟩ : ∃ b, b = (inR r.hg 0 99) := ⟨_, rfl⟩
    obtain ⟨q2, hq2⟩ : ∃ b, b = (inR r.ag 0 99) := ⟨_, rfl⟩
    obtain ⟨z, hz⟩ : ∃ b, b = ruEq (rOnly 3 r) r := ⟨_, rfl⟩
    have HZZ : Hid (z = ruEq ⟨r.cas, r.ins, r.kind, r.g, 0, 0, 0, 0, 0, 0, r.hg, r.ag, 0, 0⟩ r) := by
      have : z = ruEq ⟨r.cas, r.ins, r.kind, r.g, 0, 0, 0, 0, 0, 0, r.hg, r.ag, 0, 0⟩ r := hz
      exact this
    have HRK : Hid (R = (true && true && (q0 && q1 && q2) && z)) := by
      have : R = (true && true && (q0 && q1 && q2) && z) := by
        rw [unhide HR, unhide HRK0, ← unhide E0, ← unhide E1, hz, hq0, hq1, hq2]
        show (true && true && (okGame r.g && (inR r.hg 0 99 && inR r.ag 0 99)) && _) = _
        simp only [Bool.and_assoc]
      exact this
    have Q0 := hide hq0
    have Q1 := hide hq1
    have Q2 := hide hq2
    clear HRK0 hq0 hq1 hq2 hz
    have hc2 : W5.cell? ⟨w.heap.size, 2, none⟩ = some (.int .i64 r.kind) := (unhide HV).cell rfl
    clear hk
    go_upto_region 14 with fail
    refine wp_region_lit ?_
    refine wpList_plain rfl fun Kt hKt => ?_
    go_simp
    refine hKt _ _ ?_
    clear hKt Kt
    try simp only [List.getElem_toArray, List.getElem_cons_zero, List.getElem_cons_succ, Act.put, List.setIfInBounds_toArray, List.set_cons_zero, List.set_cons_succ]
    refine wpList_vload rfl 26 (.tmp 61) rfl w.heap.size 3 rfl _ Tryz.underlying26 rfl (gC r.g) infoGm ((unhide HV).mid 3 _ (fun j v hj => by match j, hj with | 0, h => exact h | 1, h => exact h | 2, h => exact h | 3, h => exact h | n + 4, h => exact absurd h (by simp [gC]))) ?_
    try simp only [List.getElem_toArray, List.getElem_cons_zero, List.getElem_cons_succ, Act.put, List.setIfInBounds_toArray, List.set_cons_zero, List.set_cons_succ]
    refine wpList_plain rfl fun Kt hKt => ?_
    go_simp
    refine hKt _ _ ?_
    clear hKt Kt
    try simp only [List.getElem_toArray, List.getElem_cons_zero, List.getElem_cons_succ, Act.put, List.setIfInBounds_toArray, List.set_cons_zero, List.set_cons_succ]
    refine wpList_vput rfl 26 (.tmp 63) (.tmp 62) rfl (w.heap.size + 1) 3 rfl (gC r.g) rfl infoGm (by intro v hv; simp only [gC, List.mem_cons, List.not_mem_nil, or_false] at hv; rcases hv with rfl | rfl | rfl | rfl <;> rfl) _ (rC ⟨r.cas, r.ins, r.kind, g0, 0, 0, 0, 0, 0, 0, 0, 0, 0, 0⟩) (unhide HO) (show 3 + 4 ≤ 17 by omega) ?_
    intro W6 HWx HGx
    have HO := hide (show VsAt W6 (w.heap.size + 1) 35 (rC ⟨r.cas, r.ins, r.kind, r.g, 0, 0, 0, 0, 0, 0, 0, 0, 0, 0⟩) from unhide HWx)
    have HV := hide ((unhide HV).grown (unhide HGx) (fun e => by injection e with e; omega))
    have HB := hide ((unhide HB).grown (unhide HGx) (unhide HB).size (fun i e => by injection e with e; omega))
    clear HWx HGx
    refine wpList_nil ?_
    clear hc2
    go_upto_region 15 with fail
    have hcs : W6.cell? ⟨w.heap.size, 13, none⟩ = some (.int .i64 r.hg) := (unhide HV).cell rfl
    have hct : W6.cell? ⟨w.heap.size + 1, 13, none⟩ = some (.int .i64 0) := (unhide HO).cell rfl
    have hft := (unhide HO).free 13
    refine wp_region_lit ?_
    refine wpList_plain rfl fun Kt hKt => ?_
    go_simp
    refine hKt _ _ ?_
    clear hKt Kt
    try simp only [List.getElem_toArray, List.getElem_cons_zero, List.getElem_cons_succ, Act.put, List.setIfInBounds_toArray, List.set_cons_zero, List.set_cons_succ]
    refine wpList_plain rfl fun Kt hKt => ?_
    go_simp
    refine hKt _ _ ?_
    clear hKt Kt
    try simp only [List.getElem_toArray, List.getElem_cons_zero, List.getElem_cons_succ, Act.put, List.setIfInBounds_toArray, List.set_cons_zero, List.set_cons_succ]
    refine wpList_plain rfl fun Kt hKt => ?_
    go_simp
    refine hKt _ _ ?_
    clear hKt Kt
    try simp only [List.getElem_toArray, List.getElem_cons_zero, List.getElem_cons_succ, Act.put, List.setIfInBounds_toArray, List.set_cons_zero, List.set_cons_succ]
    refine wpList_plain rfl fun Kt hKt => ?_
    go_simp
    generalize hXs : World.setCell _ _ _ = W7
    have hGs : W6.grownBy W7 (some (w.heap.size + 1)) := hXs ▸ fgrownSet (World.grownBy.refl _ _) 13 _
    have HO := hide (show VsAt W7 (w.heap.size + 1) 35 (rC ⟨r.cas, r.ins, r.kind, r.g, 0, 0, 0, 0, 0, 0, r.hg, 0, 0, 0⟩) from hXs ▸ (unhide HO).set 13 _)
    have HV := hide ((unhide HV).grown hGs (fun e => by injection e with e; omega))
    have HB := hide ((unhide HB).grown hGs (unhide HB).size (fun i e => by injection e with e; omega))
    refine hKt _ _ ?_
    clear hKt Kt hXs hGs hcs hct hft
    try simp only [List.getElem_toArray, List.getElem_cons_zero, List.getElem_cons_succ, Act.put, List.setIfInBounds_toArray, List.set_cons_zero, List.set_cons_succ]
    refine wpList_nil ?_
    go_upto_region 16 with fail
    have hcs : W7.cell? ⟨w.heap.size, 14, none⟩ = some (.int .i64 r.ag) := (unhide HV).cell rfl
    have hct : W7.cell? ⟨w.heap.size + 1, 14, none⟩ = some (.int .i64 0) := (unhide HO).cell rfl
    have hft := (unhide HO).free 14
    refine wp_region_lit ?_
    refine wpList_plain rfl fun Kt hKt => ?_
    go_simp
    refine hKt _ _ ?_
    clear hKt Kt
    try simp only [List.getElem_toArray, List.getElem_cons_zero, List.getElem_cons_succ, Act.put, List.setIfInBounds_toArray, List.set_cons_zero, List.set_cons_succ]
    refine wpList_plain rfl fun Kt hKt => ?_
    go_simp
    refine hKt _ _ ?_
    clear hKt Kt
    try simp only [List.getElem_toArray, List.getElem_cons_zero, List.getElem_cons_succ, Act.put, List.setIfInBounds_toArray, List.set_cons_zero, List.set_cons_succ]
    refine wpList_plain rfl fun Kt hKt => ?_
    go_simp
    refine hKt _ _ ?_
    clear hKt Kt
    try simp only [List.getElem_toArray, List.getElem_cons_zero, List.getElem_cons_succ, Act.put, List.setIfInBounds_toArray, List.set_cons_zero, List.set_cons_succ]
    refine wpList_plain rfl fun Kt hKt => ?_
    go_simp
    generalize hXs : World.setCell _ _ _ = W8
    have hGs : W7.grownBy W8 (some (w.heap.size + 1)) := hXs ▸ fgrownSet (World.grownBy.refl _ _) 14 _
    have HO := hide (show VsAt W8 (w.heap.size + 1) 35 (rC ⟨r.cas, r.ins, r.kind, r.g, 0, 0, 0, 0, 0, 0, r.hg, r.ag, 0, 0⟩) from hXs ▸ (unhide HO).set 14 _)
    have HV := hide ((unhide HV).grown hGs (fun e => by injection e with e; omega))
    have HB := hide ((unhide HB).grown hGs (unhide HB).size (fun i e => by injection e with e; omega))
    refine hKt _ _ ?_
    clear hKt Kt hXs hGs hcs hct hft
    try simp only [List.getElem_toArray, List.getElem_cons_zero, List.getElem_cons_succ, Act.put, List.setIfInBounds_toArray, List.set_cons_zero, List.set_cons_succ]
    refine wpList_nil ?_
    have hc3 : W8.cell? ⟨w.heap.size, 3, none⟩ = some (.int .i64 r.g.s) := (unhide HV).cell rfl
    have hc4 : W8.cell? ⟨w.heap.size, 4, none⟩ = some (.int .i64 r.g.c) := (unhide HV).cell rfl
    have hc5 : W8.cell? ⟨w.heap.size, 5, none⟩ = some (.int .i64 r.g.h) := (unhide HV).cell rfl
    have hc6 : W8.cell? ⟨w.heap.size, 6, none⟩ = some (.int .i64 r.g.a) := (unhide HV).cell rfl
    have HC := hide (rgame_any r.g W8)
    rw [← unhide Q0] at HC
    go_wp2_with fail
    refine (unhide HC).mono ?_; rintro x W9 ⟨rfl, hG⟩
    clear HC hc3 hc4 hc5 hc6
    have HV := hide ((unhide HV).keep hG); have HO := hide ((unhide HO).keep hG); have HB := hide (thenB (unhide HB) hG)
    clear hG
    cases q0
    case false =>
      have e : R = false := by rw [unhide HRK]; simp
      subst e
      go_wp2_with fail
      go_ret
      exact ⟨rfl, unhide HB⟩
    have hc13 : W9.cell? ⟨w.heap.size, 13, none⟩ = some (.int .i64 r.hg) := (unhide HV).cell rfl
    have HC := hide (rgoals_any r.hg W9)
    rw [← unhide Q1] at HC
    go_wp2_with fail
    refine (unhide HC).mono ?_; rintro x W10 ⟨rfl, rfl⟩
    clear HC hc13
    cases q1
    case false =>
      have e : R = false := by rw [unhide HRK]; simp
      subst e
      go_wp2_with fail
      go_ret
      exact ⟨rfl, unhide HB⟩
    have hc14 : W10.cell? ⟨w.heap.size, 14, none⟩ = some (.int .i64 r.ag) := (unhide HV).cell rfl
    have HC := hide (rgoals_any r.ag W10)
    rw [← unhide Q2] at HC
    go_wp2_with fail
    refine (unhide HC).mono ?_; rintro x W11 ⟨rfl, rfl⟩
    clear HC hc14
    cases q2
    case false =>
      have e : R = false := by rw [unhide HRK]; simp
      subst e
      go_wp2_with fail
      go_ret
      exact ⟨rfl, unhide HB⟩
    go_upto_region 38 with fail
    refine wp_region_lit ?_
    refine wpList_plain rfl fun Kt hKt => ?_
    go_simp
    refine hKt _ _ ?_
    clear hKt Kt
    try simp only [List.getElem_toArray, List.getElem_cons_zero, List.getElem_cons_succ, Act.put, List.setIfInBounds_toArray, List.set_cons_zero, List.set_cons_succ]
    refine wpList_plain rfl fun Kt hKt => ?_
    go_simp
    refine hKt _ _ ?_
    clear hKt Kt
    try simp only [List.getElem_toArray, List.getElem_cons_zero, List.getElem_cons_succ, Act.put, List.setIfInBounds_toArray, List.set_cons_zero, List.set_cons_succ]
    refine wpList_vgload (by kernel_rfl) 35 (.tmp 3) rfl (w.heap.size + 1) 0 rfl _ Tryz.underlying35 rfl (rC ⟨r.cas, r.ins, r.kind, r.g, 0, 0, 0, 0, 0, 0, r.hg, r.ag, 0, 0⟩) infoRu (unhide HO).range ?_
    try simp only [List.getElem_toArray, List.getElem_cons_zero, List.getElem_cons_succ, Act.put, List.setIfInBounds_toArray, List.set_cons_zero, List.set_cons_succ]
    refine wpList_vgload (by kernel_rfl) 35 (.tmp 1) rfl w.heap.size 0 rfl _ Tryz.underlying35 rfl (rC r) infoRu (unhide HV).range ?_
    try simp only [List.getElem_toArray, List.getElem_cons_zero, List.getElem_cons_succ, Act.put, List.setIfInBounds_toArray, List.set_cons_zero, List.set_cons_succ]
    refine wpList_cmpW (by kernel_rfl) 35 35 (.tmp 167) (.tmp 168) rfl _ _ z rfl rfl (ru_guard _ _ _ r _) (by rw [unhide HZZ]; exact ru_cmp _ r _) ?_
    try simp only [List.getElem_toArray, List.getElem_cons_zero, List.getElem_cons_succ, Act.put, List.setIfInBounds_toArray, List.set_cons_zero, List.set_cons_succ]
    have e : R = z := by rw [unhide HRK]; simp
    subst e
    go_wp2_with fail
    go_ret
    exact ⟨rfl, unhide HB⟩
  have hn3 : (r.kind == 3) = false := by rw [beq_eq_false_iff_ne]; exact hk
  have HN3 := hide hk
  clear hk
  by_cases hk : r.kind = 4
  · have hkk : (r.kind == 4) = true := by rw [beq_iff_eq]; exact hk
    have HO := HW5
    clear HW5
    have HRK0 := hide (rul_eq r 4 hk (by decide) (by decide))
    obtain ⟨q0, hq0⟩ : ∃ b, b = (inR r.club 0 191) := ⟨_, rfl⟩
    obtain ⟨q1, hq1⟩ : ∃ b, b = (inR r.s 0 63) := ⟨_, rfl⟩
    obtain ⟨q2, hq2⟩ : ∃ b, b = (inR r.c 0 15) := ⟨_, rfl⟩
    obtain ⟨q3, hq3⟩ : ∃ b, b = (inR r.points 1 99) := ⟨_, rfl⟩
    obtain ⟨z, hz⟩ : ∃ b, b = ruEq (rOnly 4 r) r := ⟨_, rfl⟩
    have HZZ : Hid (z = ruEq ⟨r.cas, r.ins, r.kind, g0, r.club, 0, r.s, r.c, r.points, 0, 0, 0, 0, 0⟩ r) := by
      have : z = ruEq ⟨r.cas, r.ins, r.kind, g0, r.club, 0, r.s, r.c, r.points, 0, 0, 0, 0, 0⟩ r := hz
      exact this
    have HRK : Hid (R = (true && true && (q0 && q1 && q2 && q3) && z)) := by
      have : R = (true && true && (q0 && q1 && q2 && q3) && z) := by
        rw [unhide HR, unhide HRK0, ← unhide E0, ← unhide E1, hz, hq0, hq1, hq2, hq3]
        show (true && true && (inR r.club 0 191 && inR r.s 0 63 && inR r.c 0 15 && inR r.points 1 99) && _) = _
        simp only [Bool.and_assoc]
      exact this
    have Q0 := hide hq0
    have Q1 := hide hq1
    have Q2 := hide hq2
    have Q3 := hide hq3
    clear HRK0 hq0 hq1 hq2 hq3 hz
    have hc2 : W5.cell? ⟨w.heap.size, 2, none⟩ = some (.int .i64 r.kind) := (unhide HV).cell rfl
    clear hk
    go_upto_region 19 with fail
    have hcs : W5.cell? ⟨w.heap.size, 7, none⟩ = some (.int .i64 r.club) := (unhide HV).cell rfl
    have hct : W5.cell? ⟨w.heap.size + 1, 7, none⟩ = some (.int .i64 0) := (unhide HO).cell rfl
    have hft := (unhide HO).free 7
    refine wp_region_lit ?_
    refine wpList_plain rfl fun Kt hKt => ?_
    go_simp
    refine hKt _ _ ?_
    clear hKt Kt
    try simp only [List.getElem_toArray, List.getElem_cons_zero, List.getElem_cons_succ, Act.put, List.setIfInBounds_toArray, List.set_cons_zero, List.set_cons_succ]
    refine wpList_plain rfl fun Kt hKt => ?_
    go_simp
    refine hKt _ _ ?_
    clear hKt Kt
    try simp only [List.getElem_toArray, List.getElem_cons_zero, List.getElem_cons_succ, Act.put, List.setIfInBounds_toArray, List.set_cons_zero, List.set_cons_succ]
    refine wpList_plain rfl fun Kt hKt => ?_
    go_simp
    refine hKt _ _ ?_
    clear hKt Kt
    try simp only [List.getElem_toArray, List.getElem_cons_zero, List.getElem_cons_succ, Act.put, List.setIfInBounds_toArray, List.set_cons_zero, List.set_cons_succ]
    refine wpList_plain rfl fun Kt hKt => ?_
    go_simp
    generalize hXs : World.setCell _ _ _ = W6
    have hGs : W5.grownBy W6 (some (w.heap.size + 1)) := hXs ▸ fgrownSet (World.grownBy.refl _ _) 7 _
    have HO := hide (show VsAt W6 (w.heap.size + 1) 35 (rC ⟨r.cas, r.ins, r.kind, g0, r.club, 0, 0, 0, 0, 0, 0, 0, 0, 0⟩) from hXs ▸ (unhide HO).set 7 _)
    have HV := hide ((unhide HV).grown hGs (fun e => by injection e with e; omega))
    have HB := hide ((unhide HB).grown hGs (unhide HB).size (fun i e => by injection e with e; omega))
    refine hKt _ _ ?_
    clear hKt Kt hXs hGs hcs hct hft
    try simp only [List.getElem_toArray, List.getElem_cons_zero, List.getElem_cons_succ, Act.put, List.setIfInBounds_toArray, List.set_cons_zero, List.set_cons_succ]
    refine wpList_nil ?_
    clear hc2
    go_upto_region 20 with fail
    have hcs : W6.cell? ⟨w.heap.size, 9, none⟩ = some (.int .i64 r.s) := (unhide HV).cell rfl
    have hct : W6.cell? ⟨w.heap.size + 1, 9, none⟩ = some (.int .i64 0) := (unhide HO).cell rfl
    have hft := (unhide HO).free 9
    refine wp_region_lit ?_
    refine wpList_plain rfl fun Kt hKt => ?_
    go_simp
    refine hKt _ _ ?_
    clear hKt Kt
    try simp only [List.getElem_toArray, List.getElem_cons_zero, List.getElem_cons_succ, Act.put, List.setIfInBounds_toArray, List.set_cons_zero, List.set_cons_succ]
    refine wpList_plain rfl fun Kt hKt => ?_
    go_simp
    refine hKt _ _ ?_
    clear hKt Kt
    try simp only [List.getElem_toArray, List.getElem_cons_zero, List.getElem_cons_succ, Act.put, List.setIfInBounds_toArray, List.set_cons_zero, List.set_cons_succ]
    refine wpList_plain rfl fun Kt hKt => ?_
    go_simp
    refine hKt _ _ ?_
    clear hKt Kt
    try simp only [List.getElem_toArray, List.getElem_cons_zero, List.getElem_cons_succ, Act.put, List.setIfInBounds_toArray, List.set_cons_zero, List.set_cons_succ]
    refine wpList_plain rfl fun Kt hKt => ?_
    go_simp
    generalize hXs : World.setCell _ _ _ = W7
    have hGs : W6.grownBy W7 (some (w.heap.size + 1)) := hXs ▸ fgrownSet (World.grownBy.refl _ _) 9 _
    have HO := hide (show VsAt W7 (w.heap.size + 1) 35 (rC ⟨r.cas, r.ins, r.kind, g0, r.club, 0, r.s, 0, 0, 0, 0, 0, 0, 0⟩) from hXs ▸ (unhide HO).set 9 _)
    have HV := hide ((unhide HV).grown hGs (fun e => by injection e with e; omega))
    have HB := hide ((unhide HB).grown hGs (unhide HB).size (fun i e => by injection e with e; omega))
    refine hKt _ _ ?_
    clear hKt Kt hXs hGs hcs hct hft
    try simp only [List.getElem_toArray, List.getElem_cons_zero, List.getElem_cons_succ, Act.put, List.setIfInBounds_toArray, List.set_cons_zero, List.set_cons_succ]
    refine wpList_nil ?_
    go_upto_region 21 with fail
    have hcs : W7.cell? ⟨w.heap.size, 10, none⟩ = some (.int .i64 r.c) := (unhide HV).cell rfl
    have hct : W7.cell? ⟨w.heap.size + 1, 10, none⟩ = some (.int .i64 0) := (unhide HO).cell rfl
    have hft := (unhide HO).free 10
    refine wp_region_lit ?_
    refine wpList_plain rfl fun Kt hKt => ?_
    go_simp
    refine hKt _ _ ?_
    clear hKt Kt
    try simp only [List.getElem_toArray, List.getElem_cons_zero, List.getElem_cons_succ, Act.put, List.setIfInBounds_toArray, List.set_cons_zero, List.set_cons_succ]
    refine wpList_plain rfl fun Kt hKt => ?_
    go_simp
    refine hKt _ _ ?_
    clear hKt Kt
    try simp only [List.getElem_toArray, List.getElem_cons_zero, List.getElem_cons_succ, Act.put, List.setIfInBounds_toArray, List.set_cons_zero, List.set_cons_succ]
    refine wpList_plain rfl fun Kt hKt => ?_
    go_simp
    refine hKt _ _ ?_
    clear hKt Kt
    try simp only [List.getElem_toArray, List.getElem_cons_zero, List.getElem_cons_succ, Act.put, List.setIfInBounds_toArray, List.set_cons_zero, List.set_cons_succ]
    refine wpList_plain rfl fun Kt hKt => ?_
    go_simp
    generalize hXs : World.setCell _ _ _ = W8
    have hGs : W7.grownBy W8 (some (w.heap.size + 1)) := hXs ▸ fgrownSet (World.grownBy.refl _ _) 10 _
    have HO := hide (show VsAt W8 (w.heap.size + 1) 35 (rC ⟨r.cas, r.ins, r.kind, g0, r.club, 0, r.s, r.c, 0, 0, 0, 0, 0, 0⟩) from hXs ▸ (unhide HO).set 10 _)
    have HV := hide ((unhide HV).grown hGs (fun e => by injection e with e; omega))
    have HB := hide ((unhide HB).grown hGs (unhide HB).size (fun i e => by injection e with e; omega))
    refine hKt _ _ ?_
    clear hKt Kt hXs hGs hcs hct hft
    try simp only [List.getElem_toArray, List.getElem_cons_zero, List.getElem_cons_succ, Act.put, List.setIfInBounds_toArray, List.set_cons_zero, List.set_cons_succ]
    refine wpList_nil ?_
    go_upto_region 22 with fail
    have hcs : W8.cell? ⟨w.heap.size, 11, none⟩ = some (.int .i64 r.points) := (unhide HV).cell rfl
    have hct : W8.cell? ⟨w.heap.size + 1, 11, none⟩ = some (.int .i64 0) := (unhide HO).cell rfl
    have hft := (unhide HO).free 11
    refine wp_region_lit ?_
    refine wpList_plain rfl fun Kt hKt => ?_
    go_simp
    refine hKt _ _ ?_
    clear hKt Kt
    try simp only [List.getElem_toArray, List.getElem_cons_zero, List.getElem_cons_succ, Act.put, List.setIfInBounds_toArray, List.set_cons_zero, List.set_cons_succ]
    refine wpList_plain rfl fun Kt hKt => ?_
    go_simp
    refine hKt _ _ ?_
    clear hKt Kt
    try simp only [List.getElem_toArray, List.getElem_cons_zero, List.getElem_cons_succ, Act.put, List.setIfInBounds_toArray, List.set_cons_zero, List.set_cons_succ]
    refine wpList_plain rfl fun Kt hKt => ?_
    go_simp
    refine hKt _ _ ?_
    clear hKt Kt
    try simp only [List.getElem_toArray, List.getElem_cons_zero, List.getElem_cons_succ, Act.put, List.setIfInBounds_toArray, List.set_cons_zero, List.set_cons_succ]
    refine wpList_plain rfl fun Kt hKt => ?_
    go_simp
    generalize hXs : World.setCell _ _ _ = W9
    have hGs : W8.grownBy W9 (some (w.heap.size + 1)) := hXs ▸ fgrownSet (World.grownBy.refl _ _) 11 _
    have HO := hide (show VsAt W9 (w.heap.size + 1) 35 (rC ⟨r.cas, r.ins, r.kind, g0, r.club, 0, r.s, r.c, r.points, 0, 0, 0, 0, 0⟩) from hXs ▸ (unhide HO).set 11 _)
    have HV := hide ((unhide HV).grown hGs (fun e => by injection e with e; omega))
    have HB := hide ((unhide HB).grown hGs (unhide HB).size (fun i e => by injection e with e; omega))
    refine hKt _ _ ?_
    clear hKt Kt hXs hGs hcs hct hft
    try simp only [List.getElem_toArray, List.getElem_cons_zero, List.getElem_cons_succ, Act.put, List.setIfInBounds_toArray, List.set_cons_zero, List.set_cons_succ]
    refine wpList_nil ?_
    have hc7 : W9.cell? ⟨w.heap.size, 7, none⟩ = some (.int .i64 r.club) := (unhide HV).cell rfl
    have HC := hide (rclub_any r.club W9)
    rw [← unhide Q0] at HC
    go_wp2_with fail
    refine (unhide HC).mono ?_; rintro x W10 ⟨rfl, rfl⟩
    clear HC hc7
    cases q0
    case false =>
      have e : R = false := by rw [unhide HRK]; simp
      subst e
      go_wp2_with fail
      go_ret
      exact ⟨rfl, unhide HB⟩
    have hc9 : W10.cell? ⟨w.heap.size, 9, none⟩ = some (.int .i64 r.s) := (unhide HV).cell rfl
    have HC := hide (rseason_any r.s W10)
    rw [← unhide Q1] at HC
    go_wp2_with fail
    refine (unhide HC).mono ?_; rintro x W11 ⟨rfl, rfl⟩
    clear HC hc9
    cases q1
    case false =>
      have e : R = false := by rw [unhide HRK]; simp
      subst e
      go_wp2_with fail
      go_ret
      exact ⟨rfl, unhide HB⟩
    have hc10 : W11.cell? ⟨w.heap.size, 10, none⟩ = some (.int .i64 r.c) := (unhide HV).cell rfl
    have HC := hide (rcomp_any r.c W11)
    rw [← unhide Q2] at HC
    go_wp2_with fail
    refine (unhide HC).mono ?_; rintro x W12 ⟨rfl, rfl⟩
    clear HC hc10
    cases q2
    case false =>
      have e : R = false := by rw [unhide HRK]; simp
      subst e
      go_wp2_with fail
      go_ret
      exact ⟨rfl, unhide HB⟩
    have hc11 : W12.cell? ⟨w.heap.size, 11, none⟩ = some (.int .i64 r.points) := (unhide HV).cell rfl
    have HC := hide (rwithin_any r.points 1 99 W12)
    rw [← unhide Q3] at HC
    go_wp2_with fail
    refine (unhide HC).mono ?_; rintro x W13 ⟨rfl, rfl⟩
    clear HC hc11
    cases q3
    case false =>
      have e : R = false := by rw [unhide HRK]; simp
      subst e
      go_wp2_with fail
      go_ret
      exact ⟨rfl, unhide HB⟩
    go_upto_region 38 with fail
    refine wp_region_lit ?_
    refine wpList_plain rfl fun Kt hKt => ?_
    go_simp
    refine hKt _ _ ?_
    clear hKt Kt
    try simp only [List.getElem_toArray, List.getElem_cons_zero, List.getElem_cons_succ, Act.put, List.setIfInBounds_toArray, List.set_cons_zero, List.set_cons_succ]
    refine wpList_plain rfl fun Kt hKt => ?_
    go_simp
    refine hKt _ _ ?_
    clear hKt Kt
    try simp only [List.getElem_toArray, List.getElem_cons_zero, List.getElem_cons_succ, Act.put, List.setIfInBounds_toArray, List.set_cons_zero, List.set_cons_succ]
    refine wpList_vgload (by kernel_rfl) 35 (.tmp 3) rfl (w.heap.size + 1) 0 rfl _ Tryz.underlying35 rfl (rC ⟨r.cas, r.ins, r.kind, g0, r.club, 0, r.s, r.c, r.points, 0, 0, 0, 0, 0⟩) infoRu (unhide HO).range ?_
    try simp only [List.getElem_toArray, List.getElem_cons_zero, List.getElem_cons_succ, Act.put, List.setIfInBounds_toArray, List.set_cons_zero, List.set_cons_succ]
    refine wpList_vgload (by kernel_rfl) 35 (.tmp 1) rfl w.heap.size 0 rfl _ Tryz.underlying35 rfl (rC r) infoRu (unhide HV).range ?_
    try simp only [List.getElem_toArray, List.getElem_cons_zero, List.getElem_cons_succ, Act.put, List.setIfInBounds_toArray, List.set_cons_zero, List.set_cons_succ]
    refine wpList_cmpW (by kernel_rfl) 35 35 (.tmp 167) (.tmp 168) rfl _ _ z rfl rfl (ru_guard _ _ _ r _) (by rw [unhide HZZ]; exact ru_cmp _ r _) ?_
    try simp only [List.getElem_toArray, List.getElem_cons_zero, List.getElem_cons_succ, Act.put, List.setIfInBounds_toArray, List.set_cons_zero, List.set_cons_succ]
    have e : R = z := by rw [unhide HRK]; simp
    subst e
    go_wp2_with fail
    go_ret
    exact ⟨rfl, unhide HB⟩
  have hn4 : (r.kind == 4) = false := by rw [beq_eq_false_iff_ne]; exact hk
  have HN4 := hide hk
  clear hk
  by_cases hk : r.kind = 5
  · have hkk : (r.kind == 5) = true := by rw [beq_iff_eq]; exact hk
    have HO := HW5
    clear HW5
    have HRK0 := hide (rul_eq r 5 hk (by decide) (by decide))
    obtain ⟨q0, hq0⟩ : ∃ b, b = (inR r.club 0 191) := ⟨_, rfl⟩
    obtain ⟨q1, hq1⟩ : ∃ b, b = (okInt r.from_ r.to_) := ⟨_, rfl⟩
    obtain ⟨z, hz⟩ : ∃ b, b = ruEq (rOnly 5 r) r := ⟨_, rfl⟩
    have HZZ : Hid (z = ruEq ⟨r.cas, r.ins, r.kind, g0, r.club, 0, 0, 0, 0, 0, 0, 0, r.from_, r.to_⟩ r) := by
      have : z = ruEq ⟨r.cas, r.ins, r.kind, g0, r.club, 0, 0, 0, 0, 0, 0, 0, r.from_, r.to_⟩ r := hz
      exact this
    have HRK : Hid (R = (true && true && (q0 && q1) && z)) := by
      have : R = (true && true && (q0 && q1) && z) := by
        rw [unhide HR, unhide HRK0, ← unhide E0, ← unhide E1, hz, hq0, hq1]
        show (true && true && (inR r.club 0 191 && okInt r.from_ r.to_) && _) = _
        simp only [Bool.and_assoc]
      exact this
    have Q0 := hide hq0
    have Q1 := hide hq1
    clear HRK0 hq0 hq1 hz
    have hc2 : W5.cell? ⟨w.heap.size, 2, none⟩ = some (.int .i64 r.kind) := (unhide HV).cell rfl
    clear hk
    go_upto_region 25 with fail
    have hcs : W5.cell? ⟨w.heap.size, 7, none⟩ = some (.int .i64 r.club) := (unhide HV).cell rfl
    have hct : W5.cell? ⟨w.heap.size + 1, 7, none⟩ = some (.int .i64 0) := (unhide HO).cell rfl
    have hft := (unhide HO).free 7
    refine wp_region_lit ?_
    refine wpList_plain rfl fun Kt hKt => ?_
    go_simp
    refine hKt _ _ ?_
    clear hKt Kt
    try simp only [List.getElem_toArray, List.getElem_cons_zero, List.getElem_cons_succ, Act.put, List.setIfInBounds_toArray, List.set_cons_zero, List.set_cons_succ]
    refine wpList_plain rfl fun Kt hKt => ?_
    go_simp
    refine hKt _ _ ?_
    clear hKt Kt
    try simp only [List.getElem_toArray, List.getElem_cons_zero, List.getElem_cons_succ, Act.put, List.setIfInBounds_toArray, List.set_cons_zero, List.set_cons_succ]
    refine wpList_plain rfl fun Kt hKt => ?_
    go_simp
    refine hKt _ _ ?_
    clear hKt Kt
    try simp only [List.getElem_toArray, List.getElem_cons_zero, List.getElem_cons_succ, Act.put, List.setIfInBounds_toArray, List.set_cons_zero, List.set_cons_succ]
    refine wpList_plain rfl fun Kt hKt => ?_
    go_simp
    generalize hXs : World.setCell _ _ _ = W6
    have hGs : W5.grownBy W6 (some (w.heap.size + 1)) := hXs ▸ fgrownSet (World.grownBy.refl _ _) 7 _
    have HO := hide (show VsAt W6 (w.heap.size + 1) 35 (rC ⟨r.cas, r.ins, r.kind, g0, r.club, 0, 0, 0, 0, 0, 0, 0, 0, 0⟩) from hXs ▸ (unhide HO).set 7 _)
    have HV := hide ((unhide HV).grown hGs (fun e => by injection e with e; omega))
    have HB := hide ((unhide HB).grown hGs (unhide HB).size (fun i e => by injection e with e; omega))
    refine hKt _ _ ?_
    clear hKt Kt hXs hGs hcs hct hft
    try simp only [List.getElem_toArray, List.getElem_cons_zero, List.getElem_cons_succ, Act.put, List.setIfInBounds_toArray, List.set_cons_zero, List.set_cons_succ]
    refine wpList_nil ?_
    clear hc2
    go_upto_region 26 with fail
    refine wp_region_lit ?_
    refine wpList_plain rfl fun Kt hKt => ?_
    go_simp
    refine hKt _ _ ?_
    clear hKt Kt
    try simp only [List.getElem_toArray, List.getElem_cons_zero, List.getElem_cons_succ, Act.put, List.setIfInBounds_toArray, List.set_cons_zero, List.set_cons_succ]
    refine wpList_vload rfl 33 (.tmp 120) rfl w.heap.size 15 rfl _ Tryz.underlying33 rfl ([.int .i64 r.from_, .int .i64 r.to_]) infoIv ((unhide HV).mid 15 _ (fun j v hj => by match j, hj with | 0, h => exact h | 1, h => exact h | n + 2, h => exact absurd h (by simp))) ?_
    try simp only [List.getElem_toArray, List.getElem_cons_zero, List.getElem_cons_succ, Act.put, List.setIfInBounds_toArray, List.set_cons_zero, List.set_cons_succ]
    refine wpList_plain rfl fun Kt hKt => ?_
    go_simp
    refine hKt _ _ ?_
    clear hKt Kt
    try simp only [List.getElem_toArray, List.getElem_cons_zero, List.getElem_cons_succ, Act.put, List.setIfInBounds_toArray, List.set_cons_zero, List.set_cons_succ]
    refine wpList_vput rfl 33 (.tmp 122) (.tmp 121) rfl (w.heap.size + 1) 15 rfl ([.int .i64 r.from_, .int .i64 r.to_]) rfl infoIv (by intro v hv; simp only [List.mem_cons, List.not_mem_nil, or_false] at hv; rcases hv with rfl | rfl <;> rfl) _ (rC ⟨r.cas, r.ins, r.kind, g0, r.club, 0, 0, 0, 0, 0, 0, 0, 0, 0⟩) (unhide HO) (show 15 + 2 ≤ 17 by omega) ?_
    intro W7 HWx HGx
    have HO := hide (show VsAt W7 (w.heap.size + 1) 35 (rC ⟨r.cas, r.ins, r.kind, g0, r.club, 0, 0, 0, 0, 0, 0, 0, r.from_, r.to_⟩) from unhide HWx)
    have HV := hide ((unhide HV).grown (unhide HGx) (fun e => by injection e with e; omega))
    have HB := hide ((unhide HB).grown (unhide HGx) (unhide HB).size (fun i e => by injection e with e; omega))
    clear HWx HGx
    refine wpList_nil ?_
    have hc7 : W7.cell? ⟨w.heap.size, 7, none⟩ = some (.int .i64 r.club) := (unhide HV).cell rfl
    have HC := hide (rclub_any r.club W7)
    rw [← unhide Q0] at HC
    go_wp2_with fail
    refine (unhide HC).mono ?_; rintro x W8 ⟨rfl, rfl⟩
    clear HC hc7
    cases q0
    case false =>
      have e : R = false := by rw [unhide HRK]; simp
      subst e
      go_wp2_with fail
      go_ret
      exact ⟨rfl, unhide HB⟩
    have hc15 : W8.cell? ⟨w.heap.size, 15, none⟩ = some (.int .i64 r.from_) := (unhide HV).cell rfl
    have hc16 : W8.cell? ⟨w.heap.size, 16, none⟩ = some (.int .i64 r.to_) := (unhide HV).cell rfl
    have HC := hide (rintv_any r.from_ r.to_ W8)
    rw [← unhide Q1] at HC
    go_wp2_with fail
    refine (unhide HC).mono ?_; rintro x W9 ⟨rfl, hG⟩
    clear HC hc15 hc16
    have HV := hide ((unhide HV).keep hG); have HO := hide ((unhide HO).keep hG); have HB := hide (thenB (unhide HB) hG)
    clear hG
    cases q1
    case false =>
      have e : R = false := by rw [unhide HRK]; simp
      subst e
      go_wp2_with fail
      go_ret
      exact ⟨rfl, unhide HB⟩
    go_upto_region 38 with fail
    refine wp_region_lit ?_
    refine wpList_plain rfl fun Kt hKt => ?_
    go_simp
    refine hKt _ _ ?_
    clear hKt Kt
    try simp only [List.getElem_toArray, List.getElem_cons_zero, List.getElem_cons_succ, Act.put, List.setIfInBounds_toArray, List.set_cons_zero, List.set_cons_succ]
    refine wpList_plain rfl fun Kt hKt => ?_
    go_simp
    refine hKt _ _ ?_
    clear hKt Kt
    try simp only [List.getElem_toArray, List.getElem_cons_zero, List.getElem_cons_succ, Act.put, List.setIfInBounds_toArray, List.set_cons_zero, List.set_cons_succ]
    refine wpList_vgload (by kernel_rfl) 35 (.tmp 3) rfl (w.heap.size + 1) 0 rfl _ Tryz.underlying35 rfl (rC ⟨r.cas, r.ins, r.kind, g0, r.club, 0, 0, 0, 0, 0, 0, 0, r.from_, r.to_⟩) infoRu (unhide HO).range ?_
    try simp only [List.getElem_toArray, List.getElem_cons_zero, List.getElem_cons_succ, Act.put, List.setIfInBounds_toArray, List.set_cons_zero, List.set_cons_succ]
    refine wpList_vgload (by kernel_rfl) 35 (.tmp 1) rfl w.heap.size 0 rfl _ Tryz.underlying35 rfl (rC r) infoRu (unhide HV).range ?_
    try simp only [List.getElem_toArray, List.getElem_cons_zero, List.getElem_cons_succ, Act.put, List.setIfInBounds_toArray, List.set_cons_zero, List.set_cons_succ]
    refine wpList_cmpW (by kernel_rfl) 35 35 (.tmp 167) (.tmp 168) rfl _ _ z rfl rfl (ru_guard _ _ _ r _) (by rw [unhide HZZ]; exact ru_cmp _ r _) ?_
    try simp only [List.getElem_toArray, List.getElem_cons_zero, List.getElem_cons_succ, Act.put, List.setIfInBounds_toArray, List.set_cons_zero, List.set_cons_succ]
    have e : R = z := by rw [unhide HRK]; simp
    subst e
    go_wp2_with fail
    go_ret
    exact ⟨rfl, unhide HB⟩
  have hn5 : (r.kind == 5) = false := by rw [beq_eq_false_iff_ne]; exact hk
  have HN5 := hide hk
  clear hk
  by_cases hk : r.kind = 6
  · have hkk : (r.kind == 6) = true := by rw [beq_iff_eq]; exact hk
    have HO := HW5
    clear HW5
    have HRK0 := hide (rul_eq r 6 hk (by decide) (by decide))
    obtain ⟨q0, hq0⟩ : ∃ b, b = (inR r.player 0 8191) := ⟨_, rfl⟩
    obtain ⟨q1, hq1⟩ : ∃ b, b = (okInt r.from_ r.to_) := ⟨_, rfl⟩
    obtain ⟨z, hz⟩ : ∃ b, b = ruEq (rOnly 6 r) r := ⟨_, rfl⟩
    have HZZ : Hid (z = ruEq ⟨r.cas, r.ins, r.kind, g0, 0, r.player, 0, 0, 0, 0, 0, 0, r.from_, r.to_⟩ r) := by
      have : z = ruEq ⟨r.cas, r.ins, r.kind, g0, 0, r.player, 0, 0, 0, 0, 0, 0, r.from_, r.to_⟩ r := hz
      exact this
    have HRK : Hid (R = (true && true && (q0 && q1) && z)) := by
      have : R = (true && true && (q0 && q1) && z) := by
        rw [unhide HR, unhide HRK0, ← unhide E0, ← unhide E1, hz, hq0, hq1]
        show (true && true && (inR r.player 0 8191 && okInt r.from_ r.to_) && _) = _
        simp only [Bool.and_assoc]
      exact this
    have Q0 := hide hq0
    have Q1 := hide hq1
    clear HRK0 hq0 hq1 hz
    have hc2 : W5.cell? ⟨w.heap.size, 2, none⟩ = some (.int .i64 r.kind) := (unhide HV).cell rfl
    clear hk
    go_upto_region 29 with fail
    have hcs : W5.cell? ⟨w.heap.size, 8, none⟩ = some (.int .i64 r.player) := (unhide HV).cell rfl
    have hct : W5.cell? ⟨w.heap.size + 1, 8, none⟩ = some (.int .i64 0) := (unhide HO).cell rfl
    have hft := (unhide HO).free 8
    refine wp_region_lit ?_
    refine wpList_plain rfl fun Kt hKt => ?_
    go_simp
    refine hKt _ _ ?_
    clear hKt Kt
    try simp only [List.getElem_toArray, List.getElem_cons_zero, List.getElem_cons_succ, Act.put, List.setIfInBounds_toArray, List.set_cons_zero, List.set_cons_succ]
    refine wpList_plain rfl fun Kt hKt => ?_
    go_simp
    refine hKt _ _ ?_
    clear hKt Kt
    try simp only [List.getElem_toArray, List.getElem_cons_zero, List.getElem_cons_succ, Act.put, List.setIfInBounds_toArray, List.set_cons_zero, List.set_cons_succ]
    refine wpList_plain rfl fun Kt hKt => ?_
    go_simp
    refine hKt _ _ ?_
    clear hKt Kt
    try simp only [List.getElem_toArray, List.getElem_cons_zero, List.getElem_cons_succ, Act.put, List.setIfInBounds_toArray, List.set_cons_zero, List.set_cons_succ]
    refine wpList_plain rfl fun Kt hKt => ?_
    go_simp
    generalize hXs : World.setCell _ _ _ = W6
    have hGs : W5.grownBy W6 (some (w.heap.size + 1)) := hXs ▸ fgrownSet (World.grownBy.refl _ _) 8 _
    have HO := hide (show VsAt W6 (w.heap.size + 1) 35 (rC ⟨r.cas, r.ins, r.kind, g0, 0, r.player, 0, 0, 0, 0, 0, 0, 0, 0⟩) from hXs ▸ (unhide HO).set 8 _)
    have HV := hide ((unhide HV).grown hGs (fun e => by injection e with e; omega))
    have HB := hide ((unhide HB).grown hGs (unhide HB).size (fun i e => by injection e with e; omega))
    refine hKt _ _ ?_
    clear hKt Kt hXs hGs hcs hct hft
    try simp only [List.getElem_toArray, List.getElem_cons_zero, List.getElem_cons_succ, Act.put, List.setIfInBounds_toArray, List.set_cons_zero, List.set_cons_succ]
    refine wpList_nil ?_
    clear hc2
    go_upto_region 30 with fail
    refine wp_region_lit ?_
    refine wpList_plain rfl fun Kt hKt => ?_
    go_simp
    refine hKt _ _ ?_
    clear hKt Kt
    try simp only [List.getElem_toArray, List.getElem_cons_zero, List.getElem_cons_succ, Act.put, List.setIfInBounds_toArray, List.set_cons_zero, List.set_cons_succ]
    refine wpList_vload rfl 33 (.tmp 136) rfl w.heap.size 15 rfl _ Tryz.underlying33 rfl ([.int .i64 r.from_, .int .i64 r.to_]) infoIv ((unhide HV).mid 15 _ (fun j v hj => by match j, hj with | 0, h => exact h | 1, h => exact h | n + 2, h => exact absurd h (by simp))) ?_
    try simp only [List.getElem_toArray, List.getElem_cons_zero, List.getElem_cons_succ, Act.put, List.setIfInBounds_toArray, List.set_cons_zero, List.set_cons_succ]
    refine wpList_plain rfl fun Kt hKt => ?_
    go_simp
    refine hKt _ _ ?_
    clear hKt Kt
    try simp only [List.getElem_toArray, List.getElem_cons_zero, List.getElem_cons_succ, Act.put, List.setIfInBounds_toArray, List.set_cons_zero, List.set_cons_succ]
    refine wpList_vput rfl 33 (.tmp 138) (.tmp 137) rfl (w.heap.size + 1) 15 rfl ([.int .i64 r.from_, .int .i64 r.to_]) rfl infoIv (by intro v hv; simp only [List.mem_cons, List.not_mem_nil, or_false] at hv; rcases hv with rfl | rfl <;> rfl) _ (rC ⟨r.cas, r.ins, r.kind, g0, 0, r.player, 0, 0, 0, 0, 0, 0, 0, 0⟩) (unhide HO) (show 15 + 2 ≤ 17 by omega) ?_
    intro W7 HWx HGx
    have HO := hide (show VsAt W7 (w.heap.size + 1) 35 (rC ⟨r.cas, r.ins, r.kind, g0, 0, r.player, 0, 0, 0, 0, 0, 0, r.from_, r.to_⟩) from unhide HWx)
    have HV := hide ((unhide HV).grown (unhide HGx) (fun e => by injection e with e; omega))
    have HB := hide ((unhide HB).grown (unhide HGx) (unhide HB).size (fun i e => by injection e with e; omega))
    clear HWx HGx
    refine wpList_nil ?_
    have hc8 : W7.cell? ⟨w.heap.size, 8, none⟩ = some (.int .i64 r.player) := (unhide HV).cell rfl
    have HC := hide (rplayer_any r.player W7)
    rw [← unhide Q0] at HC
    go_wp2_with fail
    refine (unhide HC).mono ?_; rintro x W8 ⟨rfl, rfl⟩
    clear HC hc8
    cases q0
    case false =>
      have e : R = false := by rw [unhide HRK]; simp
      subst e
      go_wp2_with fail
      go_ret
      exact ⟨rfl, unhide HB⟩
    have hc15 : W8.cell? ⟨w.heap.size, 15, none⟩ = some (.int .i64 r.from_) := (unhide HV).cell rfl
    have hc16 : W8.cell? ⟨w.heap.size, 16, none⟩ = some (.int .i64 r.to_) := (unhide HV).cell rfl
    have HC := hide (rintv_any r.from_ r.to_ W8)
    rw [← unhide Q1] at HC
    go_wp2_with fail
    refine (unhide HC).mono ?_; rintro x W9 ⟨rfl, hG⟩
    clear HC hc15 hc16
    have HV := hide ((unhide HV).keep hG); have HO := hide ((unhide HO).keep hG); have HB := hide (thenB (unhide HB) hG)
    clear hG
    cases q1
    case false =>
      have e : R = false := by rw [unhide HRK]; simp
      subst e
      go_wp2_with fail
      go_ret
      exact ⟨rfl, unhide HB⟩
    go_upto_region 38 with fail
    refine wp_region_lit ?_
    refine wpList_plain rfl fun Kt hKt => ?_
    go_simp
    refine hKt _ _ ?_
    clear hKt Kt
    try simp only [List.getElem_toArray, List.getElem_cons_zero, List.getElem_cons_succ, Act.put, List.setIfInBounds_toArray, List.set_cons_zero, List.set_cons_succ]
    refine wpList_plain rfl fun Kt hKt => ?_
    go_simp
    refine hKt _ _ ?_
    clear hKt Kt
    try simp only [List.getElem_toArray, List.getElem_cons_zero, List.getElem_cons_succ, Act.put, List.setIfInBounds_toArray, List.set_cons_zero, List.set_cons_succ]
    refine wpList_vgload (by kernel_rfl) 35 (.tmp 3) rfl (w.heap.size + 1) 0 rfl _ Tryz.underlying35 rfl (rC ⟨r.cas, r.ins, r.kind, g0, 0, r.player, 0, 0, 0, 0, 0, 0, r.from_, r.to_⟩) infoRu (unhide HO).range ?_
    try simp only [List.getElem_toArray, List.getElem_cons_zero, List.getElem_cons_succ, Act.put, List.setIfInBounds_toArray, List.set_cons_zero, List.set_cons_succ]
    refine wpList_vgload (by kernel_rfl) 35 (.tmp 1) rfl w.heap.size 0 rfl _ Tryz.underlying35 rfl (rC r) infoRu (unhide HV).range ?_
    try simp only [List.getElem_toArray, List.getElem_cons_zero, List.getElem_cons_succ, Act.put, List.setIfInBounds_toArray, List.set_cons_zero, List.set_cons_succ]
    refine wpList_cmpW (by kernel_rfl) 35 35 (.tmp 167) (.tmp 168) rfl _ _ z rfl rfl (ru_guard _ _ _ r _) (by rw [unhide HZZ]; exact ru_cmp _ r _) ?_
    try simp only [List.getElem_toArray, List.getElem_cons_zero, List.getElem_cons_succ, Act.put, List.setIfInBounds_toArray, List.set_cons_zero, List.set_cons_succ]
    have e : R = z := by rw [unhide HRK]; simp
    subst e
    go_wp2_with fail
    go_ret
    exact ⟨rfl, unhide HB⟩
  have hn6 : (r.kind == 6) = false := by rw [beq_eq_false_iff_ne]; exact hk
  have HN6 := hide hk
  clear hk
  by_cases hk : r.kind = 7
  · have hkk : (r.kind == 7) = true := by rw [beq_iff_eq]; exact hk
    have HO := HW5
    clear HW5
    have HRK0 := hide (rul_eq r 7 hk (by decide) (by decide))
    obtain ⟨q0, hq0⟩ : ∃ b, b = (inR r.club 0 191) := ⟨_, rfl⟩
    obtain ⟨q1, hq1⟩ : ∃ b, b = (inR r.amount 1 1125899906842624) := ⟨_, rfl⟩
    obtain ⟨z, hz⟩ : ∃ b, b = ruEq (rOnly 7 r) r := ⟨_, rfl⟩
    have HZZ : Hid (z = ruEq ⟨r.cas, r.ins, r.kind, g0, r.club, 0, 0, 0, 0, r.amount, 0, 0, 0, 0⟩ r) := by
      have : z = ruEq ⟨r.cas, r.ins, r.kind, g0, r.club, 0, 0, 0, 0, r.amount, 0, 0, 0, 0⟩ r := hz
      exact this
    have HRK : Hid (R = (true && true && (q0 && q1) && z)) := by
      have : R = (true && true && (q0 && q1) && z) := by
        rw [unhide HR, unhide HRK0, ← unhide E0, ← unhide E1, hz, hq0, hq1]
        show (true && true && (inR r.club 0 191 && inR r.amount 1 1125899906842624) && _) = _
        rfl
      exact this
    have Q0 := hide hq0
    have Q1 := hide hq1
    clear HRK0 hq0 hq1 hz
    have hc2 : W5.cell? ⟨w.heap.size, 2, none⟩ = some (.int .i64 r.kind) := (unhide HV).cell rfl
    clear hk
    go_upto_region 33 with fail
    have hcs : W5.cell? ⟨w.heap.size, 7, none⟩ = some (.int .i64 r.club) := (unhide HV).cell rfl
    have hct : W5.cell? ⟨w.heap.size + 1, 7, none⟩ = some (.int .i64 0) := (unhide HO).cell rfl
    have hft := (unhide HO).free 7
    refine wp_region_lit ?_
    refine wpList_plain rfl fun Kt hKt => ?_
    go_simp
    refine hKt _ _ ?_
    clear hKt Kt
    try simp only [List.getElem_toArray, List.getElem_cons_zero, List.getElem_cons_succ, Act.put, List.setIfInBounds_toArray, List.set_cons_zero, List.set_cons_succ]
    refine wpList_plain rfl fun Kt hKt => ?_
    go_simp
    refine hKt _ _ ?_
    clear hKt Kt
    try simp only [List.getElem_toArray, List.getElem_cons_zero, List.getElem_cons_succ, Act.put, List.setIfInBounds_toArray, List.set_cons_zero, List.set_cons_succ]
    refine wpList_plain rfl fun Kt hKt => ?_
    go_simp
    refine hKt _ _ ?_
    clear hKt Kt
    try simp only [List.getElem_toArray, List.getElem_cons_zero, List.getElem_cons_succ, Act.put, List.setIfInBounds_toArray, List.set_cons_zero, List.set_cons_succ]
    refine wpList_plain rfl fun Kt hKt => ?_
    go_simp
    generalize hXs : World.setCell _ _ _ = W6
    have hGs : W5.grownBy W6 (some (w.heap.size + 1)) := hXs ▸ fgrownSet (World.grownBy.refl _ _) 7 _
    have HO := hide (show VsAt W6 (w.heap.size + 1) 35 (rC ⟨r.cas, r.ins, r.kind, g0, r.club, 0, 0, 0, 0, 0, 0, 0, 0, 0⟩) from hXs ▸ (unhide HO).set 7 _)
    have HV := hide ((unhide HV).grown hGs (fun e => by injection e with e; omega))
    have HB := hide ((unhide HB).grown hGs (unhide HB).size (fun i e => by injection e with e; omega))
    refine hKt _ _ ?_
    clear hKt Kt hXs hGs hcs hct hft
    try simp only [List.getElem_toArray, List.getElem_cons_zero, List.getElem_cons_succ, Act.put, List.setIfInBounds_toArray, List.set_cons_zero, List.set_cons_succ]
    refine wpList_nil ?_
    clear hc2
    go_upto_region 34 with fail
    have hcs : W6.cell? ⟨w.heap.size, 12, none⟩ = some (.int .i64 r.amount) := (unhide HV).cell rfl
    have hct : W6.cell? ⟨w.heap.size + 1, 12, none⟩ = some (.int .i64 0) := (unhide HO).cell rfl
    have hft := (unhide HO).free 12
    refine wp_region_lit ?_
    refine wpList_plain rfl fun Kt hKt => ?_
    go_simp
    refine hKt _ _ ?_
    clear hKt Kt
    try simp only [List.getElem_toArray, List.getElem_cons_zero, List.getElem_cons_succ, Act.put, List.setIfInBounds_toArray, List.set_cons_zero, List.set_cons_succ]
    refine wpList_plain rfl fun Kt hKt => ?_
    go_simp
    refine hKt _ _ ?_
    clear hKt Kt
    try simp only [List.getElem_toArray, List.getElem_cons_zero, List.getElem_cons_succ, Act.put, List.setIfInBounds_toArray, List.set_cons_zero, List.set_cons_succ]
    refine wpList_plain rfl fun Kt hKt => ?_
    go_simp
    refine hKt _ _ ?_
    clear hKt Kt
    try simp only [List.getElem_toArray, List.getElem_cons_zero, List.getElem_cons_succ, Act.put, List.setIfInBounds_toArray, List.set_cons_zero, List.set_cons_succ]
    refine wpList_plain rfl fun Kt hKt => ?_
    go_simp
    generalize hXs : World.setCell _ _ _ = W7
    have hGs : W6.grownBy W7 (some (w.heap.size + 1)) := hXs ▸ fgrownSet (World.grownBy.refl _ _) 12 _
    have HO := hide (show VsAt W7 (w.heap.size + 1) 35 (rC ⟨r.cas, r.ins, r.kind, g0, r.club, 0, 0, 0, 0, r.amount, 0, 0, 0, 0⟩) from hXs ▸ (unhide HO).set 12 _)
    have HV := hide ((unhide HV).grown hGs (fun e => by injection e with e; omega))
    have HB := hide ((unhide HB).grown hGs (unhide HB).size (fun i e => by injection e with e; omega))
    refine hKt _ _ ?_
    clear hKt Kt hXs hGs hcs hct hft
    try simp only [List.getElem_toArray, List.getElem_cons_zero, List.getElem_cons_succ, Act.put, List.setIfInBounds_toArray, List.set_cons_zero, List.set_cons_succ]
    refine wpList_nil ?_
    have hc7 : W7.cell? ⟨w.heap.size, 7, none⟩ = some (.int .i64 r.club) := (unhide HV).cell rfl
    have HC := hide (rclub_any r.club W7)
    rw [← unhide Q0] at HC
    go_wp2_with fail
    refine (unhide HC).mono ?_; rintro x W8 ⟨rfl, rfl⟩
    clear HC hc7
    cases q0
    case false =>
      have e : R = false := by rw [unhide HRK]; simp
      subst e
      go_wp2_with fail
      go_ret
      exact ⟨rfl, unhide HB⟩
    have hc12 : W8.cell? ⟨w.heap.size, 12, none⟩ = some (.int .i64 r.amount) := (unhide HV).cell rfl
    have HC := hide (rwithin_any r.amount 1 1125899906842624 W8)
    rw [← unhide Q1] at HC
    go_wp2_with fail
    refine (unhide HC).mono ?_; rintro x W9 ⟨rfl, rfl⟩
    clear HC hc12
    cases q1
    case false =>
      have e : R = false := by rw [unhide HRK]; simp
      subst e
      go_wp2_with fail
      go_ret
      exact ⟨rfl, unhide HB⟩
    go_upto_region 38 with fail
    refine wp_region_lit ?_
    refine wpList_plain rfl fun Kt hKt => ?_
    go_simp
    refine hKt _ _ ?_
    clear hKt Kt
    try simp only [List.getElem_toArray, List.getElem_cons_zero, List.getElem_cons_succ, Act.put, List.setIfInBounds_toArray, List.set_cons_zero, List.set_cons_succ]
    refine wpList_plain rfl fun Kt hKt => ?_
    go_simp
    refine hKt _ _ ?_
    clear hKt Kt
    try simp only [List.getElem_toArray, List.getElem_cons_zero, List.getElem_cons_succ, Act.put, List.setIfInBounds_toArray, List.set_cons_zero, List.set_cons_succ]
    refine wpList_vgload (by kernel_rfl) 35 (.tmp 3) rfl (w.heap.size + 1) 0 rfl _ Tryz.underlying35 rfl (rC ⟨r.cas, r.ins, r.kind, g0, r.club, 0, 0, 0, 0, r.amount, 0, 0, 0, 0⟩) infoRu (unhide HO).range ?_
    try simp only [List.getElem_toArray, List.getElem_cons_zero, List.getElem_cons_succ, Act.put, List.setIfInBounds_toArray, List.set_cons_zero, List.set_cons_succ]
    refine wpList_vgload (by kernel_rfl) 35 (.tmp 1) rfl w.heap.size 0 rfl _ Tryz.underlying35 rfl (rC r) infoRu (unhide HV).range ?_
    try simp only [List.getElem_toArray, List.getElem_cons_zero, List.getElem_cons_succ, Act.put, List.setIfInBounds_toArray, List.set_cons_zero, List.set_cons_succ]
    refine wpList_cmpW (by kernel_rfl) 35 35 (.tmp 167) (.tmp 168) rfl _ _ z rfl rfl (ru_guard _ _ _ r _) (by rw [unhide HZZ]; exact ru_cmp _ r _) ?_
    try simp only [List.getElem_toArray, List.getElem_cons_zero, List.getElem_cons_succ, Act.put, List.setIfInBounds_toArray, List.set_cons_zero, List.set_cons_succ]
    have e : R = z := by rw [unhide HRK]; simp
    subst e
    go_wp2_with fail
    go_ret
    exact ⟨rfl, unhide HB⟩
  have hn7 : (r.kind == 7) = false := by rw [beq_eq_false_iff_ne]; exact hk
  have HN7 := hide hk
  clear hk
  by_cases hk : r.kind = 8
  · have hkk : (r.kind == 8) = true := by rw [beq_iff_eq]; exact hk
    have HO := HW5
    clear HW5
    have HRK0 := hide (rul_eq r 8 hk (by decide) (by decide))
    obtain ⟨z, hz⟩ : ∃ b, b = ruEq (rOnly 8 r) r := ⟨_, rfl⟩
    have HZZ : Hid (z = ruEq ⟨r.cas, r.ins, r.kind, g0, 0, 0, 0, 0, 0, 0, 0, 0, 0, 0⟩ r) := by
      have : z = ruEq ⟨r.cas, r.ins, r.kind, g0, 0, 0, 0, 0, 0, 0, 0, 0, 0, 0⟩ r := hz
      exact this
    have HRK : Hid (R = (true && true && (true) && z)) := by
      have : R = (true && true && (true) && z) := by
        rw [unhide HR, unhide HRK0, ← unhide E0, ← unhide E1, hz]
        show (true && true && (true) && _) = _
        rfl
      exact this
    clear HRK0 hz
    have hc2 : W5.cell? ⟨w.heap.size, 2, none⟩ = some (.int .i64 r.kind) := (unhide HV).cell rfl
    clear hk
    go_upto_region 38 with fail
    clear hc2
    refine wp_region_lit ?_
    refine wpList_plain rfl fun Kt hKt => ?_
    go_simp
    refine hKt _ _ ?_
    clear hKt Kt
    try simp only [List.getElem_toArray, List.getElem_cons_zero, List.getElem_cons_succ, Act.put, List.setIfInBounds_toArray, List.set_cons_zero, List.set_cons_succ]
    refine wpList_plain rfl fun Kt hKt => ?_
    go_simp
    refine hKt _ _ ?_
    clear hKt Kt
    try simp only [List.getElem_toArray, List.getElem_cons_zero, List.getElem_cons_succ, Act.put, List.setIfInBounds_toArray, List.set_cons_zero, List.set_cons_succ]
    refine wpList_vgload (by kernel_rfl) 35 (.tmp 3) rfl (w.heap.size + 1) 0 rfl _ Tryz.underlying35 rfl (rC ⟨r.cas, r.ins, r.kind, g0, 0, 0, 0, 0, 0, 0, 0, 0, 0, 0⟩) infoRu (unhide HO).range ?_
    try simp only [List.getElem_toArray, List.getElem_cons_zero, List.getElem_cons_succ, Act.put, List.setIfInBounds_toArray, List.set_cons_zero, List.set_cons_succ]
    refine wpList_vgload (by kernel_rfl) 35 (.tmp 1) rfl w.heap.size 0 rfl _ Tryz.underlying35 rfl (rC r) infoRu (unhide HV).range ?_
    try simp only [List.getElem_toArray, List.getElem_cons_zero, List.getElem_cons_succ, Act.put, List.setIfInBounds_toArray, List.set_cons_zero, List.set_cons_succ]
    refine wpList_cmpW (by kernel_rfl) 35 35 (.tmp 167) (.tmp 168) rfl _ _ z rfl rfl (ru_guard _ _ _ r _) (by rw [unhide HZZ]; exact ru_cmp _ r _) ?_
    try simp only [List.getElem_toArray, List.getElem_cons_zero, List.getElem_cons_succ, Act.put, List.setIfInBounds_toArray, List.set_cons_zero, List.set_cons_succ]
    have e : R = z := by rw [unhide HRK]; simp
    subst e
    go_wp2_with fail
    go_ret
    exact ⟨rfl, unhide HB⟩
  have hn8 : (r.kind == 8) = false := by rw [beq_eq_false_iff_ne]; exact hk
  have HN8 := hide hk
  clear hk
  have hc2 : W5.cell? ⟨w.heap.size, 2, none⟩ = some (.int .i64 r.kind) := (unhide HV).cell rfl
  have e : R = false := (unhide HR).trans (rul_no r fun h => by
    have := unhide HN1; have := unhide HN2; have := unhide HN3; have := unhide HN4; have := unhide HN5; have := unhide HN6; have := unhide HN7; have := unhide HN8
    omega)
  subst e
  go_wp2_with fail
  go_ret
  exact ⟨rfl, unhide HB⟩
end Go.Proofs.YtdmaopfaeigelaaGreatDoor
