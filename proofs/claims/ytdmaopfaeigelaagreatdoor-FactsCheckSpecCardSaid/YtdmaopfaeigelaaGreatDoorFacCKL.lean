/- Contracts over the program of facts: the reference's Check and Game. FactsCheckSpec: the walk, and every input. -/
import Derived.Test.YtdmaopfaeigelaaGreatDoorFacCN
import Derived.Test.YtdmaopfaeigelaaGreatDoorFacCDM
import Derived.Test.YtdmaopfaeigelaaGreatDoorFacX
import Derived.Test.YtdmaopfaeigelaaGreatDoorFacOpn
namespace Go.Proofs.YtdmaopfaeigelaaGreatDoor
set_option linter.unusedSimpArgs false
set_option linter.unusedVariables false
set_option maxRecDepth 100000
open Go.RowKit

theorem int_beq_comm (a b : Int) : (a == b) = (b == a) := by
  by_cases h : a = b
  · rw [h]
  · rw [beq_eq_false_iff_ne.2 h, beq_eq_false_iff_ne.2 (Ne.symm h)]
theorem cdsEq_comm (l k : List Cd) : cdsEq l k = cdsEq k l := by
  rw [Bool.eq_iff_iff, cdsEq_iff, cdsEq_iff]
  exact eq_comm
theorem fcEq_comm (x y : Fc) : fcEq x y = fcEq y x := by
  unfold fcEq enEq fxEq shEq gmEq apEq mvEq ltEq
  rw [ruEq_comm, cdsEq_comm x.sh.hc, cdsEq_comm x.sh.ac, int_beq_comm x.kind, int_beq_comm x.day, int_beq_comm x.known, int_beq_comm x.e.s, int_beq_comm x.e.c, int_beq_comm x.xg.s, int_beq_comm x.xg.c, int_beq_comm x.xg.h, int_beq_comm x.xg.a, int_beq_comm x.venue,
    int_beq_comm x.sh.g.s, int_beq_comm x.sh.g.c, int_beq_comm x.sh.g.h, int_beq_comm x.sh.g.a, int_beq_comm x.sh.rf, int_beq_comm x.sh.hg, int_beq_comm x.sh.ag, int_beq_comm x.sh.hp, int_beq_comm x.sh.ap, int_beq_comm x.ac, int_beq_comm x.ai, int_beq_comm x.mp, int_beq_comm x.mt, int_beq_comm x.ls, int_beq_comm x.lc,
    show (x.e.rules.toList == y.e.rules.toList) = (y.e.rules.toList == x.e.rules.toList) from Bool.eq_iff_iff.2 (by rw [beq_iff_eq, beq_iff_eq]; exact eq_comm), show (x.susp == y.susp) = (y.susp == x.susp) from Bool.beq_comm,
    show decide (x.e.clubs = y.e.clubs) = decide (y.e.clubs = x.e.clubs) from decide_eq_decide.2 eq_comm, show decide (x.sh.hs = y.sh.hs) = decide (y.sh.hs = x.sh.hs) from decide_eq_decide.2 eq_comm, show decide (x.sh.as_ = y.sh.as_) = decide (y.sh.as_ = x.sh.as_) from decide_eq_decide.2 eq_comm,
    show decide (x.order = y.order) = decide (y.order = x.order) from decide_eq_decide.2 eq_comm, show decide (x.void = y.void) = decide (y.void = x.void) from decide_eq_decide.2 eq_comm]
theorem FAt.head {w : World} {o : Fc} {b : Ad} (h : FAt w o b) (f : Fc) : FAt w (withHead f o) b := ⟨h.cl, h.hs, h.as_, h.hc, h.ac, h.od, h.void⟩
theorem kind_of_hold {f : Fc} (h : fHold f.kind f = true) : 1 ≤ f.kind ∧ f.kind ≤ 8 := by
  by_cases hk : 1 ≤ f.kind ∧ f.kind ≤ 8
  · exact hk
  · rw [fHold_no f hk] at h; cases h
theorem chk_eq (f : Fc) : okFact f = (inR f.day 0 1048576 && inR f.known 0 1048576 && fHold f.kind f && fcEq (withHead f (fOwn f.kind f)) f) := by
  unfold okFact
  rw [fcEq_comm f]
  cases h : fHold f.kind f
  · simp
  · have hk := kind_of_hold h
    have e : inR f.kind 1 8 = true := by
      unfold inR
      rw [decide_eq_true hk.1, decide_eq_true hk.2]
      rfl
    rw [e, Bool.true_and]
theorem rgameE_any (g : Gm) (w : World) : Calls Tryz.prog 16 #[.agg (gC g).toArray] w fun x w' => x = .returned (.int .i64 (if okGame g then 0 else 70)) ∧ Below w.heap.size w w' := by
  obtain ⟨z, hz⟩ : ∃ z, z = okGame g := ⟨_, rfl⟩
  rw [← hz]
  have HZ := hide hz
  clear hz
  obtain ⟨cs, hcs⟩ : ∃ zz, zz = gC g := ⟨_, rfl⟩
  rw [← hcs]
  have HCS := hide hcs
  clear hcs
  go_enter Tryz.func16, Tryz.ntmps16
  go_upto_region 1 with fail
  generalize hX1 : w.alloc _ = W1
  have hB1 : Below w.heap.size w W1 := hX1 ▸ (Below.refl _ _).alloc (Nat.le_refl _) _
  have HV := hide (boxedV w W1 cs 26 (by rw [← hX1]; rfl))
  rw [unhide HCS] at HV
  have HB := hide hB1
  clear hX1 hB1 HCS
  have HC := hide (rgame_any g W1)
  rw [← unhide HZ] at HC
  refine wp_region_lit ?_
  refine wpList_vload rfl 26 (.tmp 1) rfl w.heap.size 0 rfl _ Tryz.underlying26 rfl (gC g) infoGm (unhide HV).range ?_
  try simp only [List.getElem_toArray, List.getElem_cons_zero, List.getElem_cons_succ, Act.put, List.setIfInBounds_toArray, List.set_cons_zero, List.set_cons_succ]
  go_wp2_with fail
  refine (unhide HC).mono ?_; rintro x W2 ⟨rfl, hG⟩
  have HB2 := hide (thenB (unhide HB) hG)
  clear hG
  cases z
  case false =>
    go_wp2_with fail
    go_ret
    exact ⟨rfl, unhide HB2⟩
  go_wp2_with fail
  go_ret
  exact ⟨rfl, unhide HB2⟩
set_option maxHeartbeats 4000000 in
theorem rcheck_any (f : Fc) (a : Ad) (w : World) (hf : FAt w f a) (hlim : f.e.rules.size ≤ 1000000) : Calls Tryz.prog 14 #[.agg (fC f a).toArray] w fun x w' => x = .returned (.int .i64 (if okFact f then 0 else 70)) ∧ Below w.heap.size w w' := by
  obtain ⟨R, hR⟩ : ∃ R : Int, R = if okFact f then 0 else 70 := ⟨_, rfl⟩
  rw [← hR]
  obtain ⟨d0, hd0⟩ : ∃ b, b = inR f.day 0 1048576 := ⟨_, rfl⟩
  obtain ⟨d1, hd1⟩ : ∃ b, b = inR f.known 0 1048576 := ⟨_, rfl⟩
  obtain ⟨c, hc⟩ : ∃ b, b = fHold f.kind f := ⟨_, rfl⟩
  obtain ⟨z, hz⟩ : ∃ b, b = fcEq (withHead f (fOwn f.kind f)) f := ⟨_, rfl⟩
  have HR : Hid (R = if (d0 && d1 && c && z) then 0 else 70) := by
    have : R = if (d0 && d1 && c && z) then 0 else 70 := by rw [hR, chk_eq, ← hd0, ← hd1, ← hc, ← hz]
    exact this
  have HF := hide hf; have HLIM := hide hlim; have H0 := hide hd0; have H1 := hide hd1; have HC := hide hc; have HZ := hide hz
  have hv32 := hf.void
  have H32 := hide hv32
  clear hR hf hlim hd0 hd1 hc hz hv32
  obtain ⟨cs, hcs⟩ : ∃ zz, zz = fC f a := ⟨_, rfl⟩
  rw [← hcs]
  have HCS := hide hcs
  clear hcs
  go_enter Tryz.func14, Tryz.ntmps14
  go_upto_region 1 with fail
  generalize hX1 : w.alloc _ = W1
  have hB1 : Below w.heap.size w W1 := hX1 ▸ (Below.refl _ _).alloc (Nat.le_refl _) _
  have hv1 := boxedV w W1 cs 45 (by rw [← hX1]; rfl)
  rw [unhide HCS] at hv1
  obtain ⟨W, hW⟩ : ∃ W, W = W1.drewN 1 := ⟨_, rfl⟩
  have HW : Hid (W = W1.drewN 1) := hW
  have hS0 : Below W1.heap.size W1 W := below_named HW
  have hS : VsAt W w.heap.size 45 (fC f a) := hv1.keep hS0
  have HB := hide (thenB hB1 hS0)
  clear hX1 hB1 hv1 hS0 HCS hW
  refine held (S := fun V => VsAt V w.heap.size 45 (fC f a)) W HW (by kernel_rfl) ?_
  refine wpAnyH_take (i := 0) (v := ?_) rfl (by kernel_rfl) (by kernel_rfl) (by kernel_rfl) (fun _ _ _ h => h) (Or.inl ⟨by kernel_rfl, ?_⟩) (by assumption) ?_
  rotate_left
  · intro Wt hSt
    go_simp
    try with_reducible rfl
  try simp only [List.getElem_toArray, List.getElem_cons_zero, List.getElem_cons_succ, Act.put, List.setIfInBounds_toArray, List.set_cons_zero, List.set_cons_succ]
  refine wpAnyH_take (i := 1) (v := ?_) rfl (by kernel_rfl) (by kernel_rfl) (by kernel_rfl) (fun _ _ _ h => h) (Or.inl ⟨by kernel_rfl, ?_⟩) (by assumption) ?_
  rotate_left
  · intro Wt hSt
    have hct := (show Wt.cell? ⟨w.heap.size, 1, none⟩ = some (.int .i64 f.day) from hSt.cell rfl)
    go_simp
    try with_reducible rfl
  try simp only [List.getElem_toArray, List.getElem_cons_zero, List.getElem_cons_succ, Act.put, List.setIfInBounds_toArray, List.set_cons_zero, List.set_cons_succ]
  refine wpAnyH_one 2 _ rfl (by kernel_rfl) (by kernel_rfl) ?_
  skip
  intro Kt hK
  go_simp
  refine (rday_any f.day W).mono ?_; rintro e W2 ⟨rfl, rfl⟩
  dsimp only
  rw [← unhide H0]
  refine hK _ _ hS ?_
  clear hK Kt
  try simp only [List.getElem_toArray, List.getElem_cons_zero, List.getElem_cons_succ, Act.put, List.setIfInBounds_toArray, List.set_cons_zero, List.set_cons_succ]
  refine wpAnyH_take (i := 3) (v := ?_) rfl (by kernel_rfl) (by kernel_rfl) (by kernel_rfl) (fun _ _ _ h => h) (Or.inl ⟨by kernel_rfl, ?_⟩) (by assumption) ?_
  rotate_left
  · intro Wt hSt
    go_simp
    try with_reducible rfl
  try simp only [List.getElem_toArray, List.getElem_cons_zero, List.getElem_cons_succ, Act.put, List.setIfInBounds_toArray, List.set_cons_zero, List.set_cons_succ]
  refine wpAnyH_take (i := 4) (v := ?_) rfl (by kernel_rfl) (by kernel_rfl) (by kernel_rfl) (fun _ _ _ h => h) (Or.inl ⟨by kernel_rfl, ?_⟩) (by assumption) ?_
  rotate_left
  · intro Wt hSt
    go_simp
    try with_reducible rfl
  try simp only [List.getElem_toArray, List.getElem_cons_zero, List.getElem_cons_succ, Act.put, List.setIfInBounds_toArray, List.set_cons_zero, List.set_cons_succ]
  cases d0
  case false =>
    refine wpAnyH_take (i := 5) (v := undef) rfl (by kernel_rfl) (by kernel_rfl) (by kernel_rfl) (fun _ _ _ h => h) (Or.inr ⟨by kernel_rfl, rfl⟩) (by assumption) ?_
    try simp only [List.getElem_toArray, List.getElem_cons_zero, List.getElem_cons_succ, Act.put, List.setIfInBounds_toArray, List.set_cons_zero, List.set_cons_succ]
    refine wpAnyH_take (i := 6) (v := undef) rfl (by kernel_rfl) (by kernel_rfl) (by kernel_rfl) (fun _ _ _ h => h) (Or.inr ⟨by kernel_rfl, rfl⟩) (by assumption) ?_
    try simp only [List.getElem_toArray, List.getElem_cons_zero, List.getElem_cons_succ, Act.put, List.setIfInBounds_toArray, List.set_cons_zero, List.set_cons_succ]
    refine wpAnyH_skip 7 _ rfl (by kernel_rfl) (by kernel_rfl) (by assumption) ?_
    try simp only [List.getElem_toArray, List.getElem_cons_zero, List.getElem_cons_succ, Act.put, List.setIfInBounds_toArray, List.set_cons_zero, List.set_cons_succ]
    refine wpAnyH_take (i := 8) (v := undef) rfl (by kernel_rfl) (by kernel_rfl) (by kernel_rfl) (fun _ _ _ h => h) (Or.inr ⟨by kernel_rfl, rfl⟩) (by assumption) ?_
    try simp only [List.getElem_toArray, List.getElem_cons_zero, List.getElem_cons_succ, Act.put, List.setIfInBounds_toArray, List.set_cons_zero, List.set_cons_succ]
    refine wpAnyH_take (i := 9) (v := ?_) rfl (by kernel_rfl) (by kernel_rfl) (by kernel_rfl) (fun _ _ _ h => h) (Or.inl ⟨by kernel_rfl, ?_⟩) (by assumption) ?_
    rotate_left
    · intro Wt hSt
      go_simp
      try with_reducible rfl
    try simp only [List.getElem_toArray, List.getElem_cons_zero, List.getElem_cons_succ, Act.put, List.setIfInBounds_toArray, List.set_cons_zero, List.set_cons_succ]
    refine wpAnyH_take (i := 10) (v := ?_) rfl (by kernel_rfl) (by kernel_rfl) (by kernel_rfl) (fun _ _ _ h => h) (Or.inl ⟨by kernel_rfl, ?_⟩) (by assumption) ?_
    rotate_left
    · intro Wt hSt
      go_simp
      try with_reducible rfl
    try simp only [List.getElem_toArray, List.getElem_cons_zero, List.getElem_cons_succ, Act.put, List.setIfInBounds_toArray, List.set_cons_zero, List.set_cons_succ]
    refine wpAnyH_take (i := 11) (v := undef) rfl (by kernel_rfl) (by kernel_rfl) (by kernel_rfl) (fun _ _ _ h => h) (Or.inr ⟨by kernel_rfl, rfl⟩) (by assumption) ?_
    try simp only [List.getElem_toArray, List.getElem_cons_zero, List.getElem_cons_succ, Act.put, List.setIfInBounds_toArray, List.set_cons_zero, List.set_cons_succ]
    refine wpAnyH_skip 12 _ rfl (by kernel_rfl) (by kernel_rfl) (by assumption) ?_
    try simp only [List.getElem_toArray, List.getElem_cons_zero, List.getElem_cons_succ, Act.put, List.setIfInBounds_toArray, List.set_cons_zero, List.set_cons_succ]
    refine wpAnyH_take (i := 13) (v := undef) rfl (by kernel_rfl) (by kernel_rfl) (by kernel_rfl) (fun _ _ _ h => h) (Or.inr ⟨by kernel_rfl, rfl⟩) (by assumption) ?_
    try simp only [List.getElem_toArray, List.getElem_cons_zero, List.getElem_cons_succ, Act.put, List.setIfInBounds_toArray, List.set_cons_zero, List.set_cons_succ]
    refine wpAnyH_take (i := 14) (v := ?_) rfl (by kernel_rfl) (by kernel_rfl) (by kernel_rfl) (fun _ _ _ h => h) (Or.inl ⟨by kernel_rfl, ?_⟩) (by assumption) ?_
    rotate_left
    · intro Wt hSt
      go_simp
      try with_reducible rfl
    try simp only [List.getElem_toArray, List.getElem_cons_zero, List.getElem_cons_succ, Act.put, List.setIfInBounds_toArray, List.set_cons_zero, List.set_cons_succ]
    refine wpAnyH_take (i := 15) (v := ?_) rfl (by kernel_rfl) (by kernel_rfl) (by kernel_rfl) (fun _ _ _ h => h) (Or.inl ⟨by kernel_rfl, ?_⟩) (by assumption) ?_
    rotate_left
    · intro Wt hSt
      go_simp
      try with_reducible rfl
    try simp only [List.getElem_toArray, List.getElem_cons_zero, List.getElem_cons_succ, Act.put, List.setIfInBounds_toArray, List.set_cons_zero, List.set_cons_succ]
    refine wpAnyH_take (i := 16) (v := undef) rfl (by kernel_rfl) (by kernel_rfl) (by kernel_rfl) (fun _ _ _ h => h) (Or.inr ⟨by kernel_rfl, rfl⟩) (by assumption) ?_
    try simp only [List.getElem_toArray, List.getElem_cons_zero, List.getElem_cons_succ, Act.put, List.setIfInBounds_toArray, List.set_cons_zero, List.set_cons_succ]
    refine wpAnyH_take (i := 18) (v := undef) rfl (by kernel_rfl) (by kernel_rfl) (by kernel_rfl) (fun _ _ _ h => h) (Or.inr ⟨by kernel_rfl, rfl⟩) (by assumption) ?_
    try simp only [List.getElem_toArray, List.getElem_cons_zero, List.getElem_cons_succ, Act.put, List.setIfInBounds_toArray, List.set_cons_zero, List.set_cons_succ]
    refine wpAnyH_skip 17 _ rfl (by kernel_rfl) (by kernel_rfl) (by assumption) ?_
    try simp only [List.getElem_toArray, List.getElem_cons_zero, List.getElem_cons_succ, Act.put, List.setIfInBounds_toArray, List.set_cons_zero, List.set_cons_succ]
    refine wpAnyH_skip 19 _ rfl (by kernel_rfl) (by kernel_rfl) (by assumption) ?_
    try simp only [List.getElem_toArray, List.getElem_cons_zero, List.getElem_cons_succ, Act.put, List.setIfInBounds_toArray, List.set_cons_zero, List.set_cons_succ]
    refine wpAnyH_take (i := 20) (v := undef) rfl (by kernel_rfl) (by kernel_rfl) (by kernel_rfl) (fun _ _ _ h => h) (Or.inr ⟨by kernel_rfl, rfl⟩) (by assumption) ?_
    try simp only [List.getElem_toArray, List.getElem_cons_zero, List.getElem_cons_succ, Act.put, List.setIfInBounds_toArray, List.set_cons_zero, List.set_cons_succ]
    refine wpAnyH_take (i := 21) (v := ?_) rfl (by kernel_rfl) (by kernel_rfl) (by kernel_rfl) (fun _ _ _ h => h) (Or.inl ⟨by kernel_rfl, ?_⟩) (by assumption) ?_
    rotate_left
    · intro Wt hSt
      go_simp
      try with_reducible rfl
    try simp only [List.getElem_toArray, List.getElem_cons_zero, List.getElem_cons_succ, Act.put, List.setIfInBounds_toArray, List.set_cons_zero, List.set_cons_succ]
    refine wpAnyH_chainOf [] _ _ _ (by kernel_rfl) (by kernel_rfl) ?_
    refine wpChain_nil ?_
    go_wp2_with fail
    go_ret
    exact ⟨by rw [unhide HR]; rfl, unhide HB⟩
  refine wpAnyH_take (i := 5) (v := ?_) rfl (by kernel_rfl) (by kernel_rfl) (by kernel_rfl) (fun _ _ _ h => h) (Or.inl ⟨by kernel_rfl, ?_⟩) (by assumption) ?_
  rotate_left
  · intro Wt hSt
    go_simp
    try with_reducible rfl
  try simp only [List.getElem_toArray, List.getElem_cons_zero, List.getElem_cons_succ, Act.put, List.setIfInBounds_toArray, List.set_cons_zero, List.set_cons_succ]
  refine wpAnyH_take (i := 6) (v := ?_) rfl (by kernel_rfl) (by kernel_rfl) (by kernel_rfl) (fun _ _ _ h => h) (Or.inl ⟨by kernel_rfl, ?_⟩) (by assumption) ?_
  rotate_left
  · intro Wt hSt
    have hct := (show Wt.cell? ⟨w.heap.size, 2, none⟩ = some (.int .i64 f.known) from hSt.cell rfl)
    go_simp
    try with_reducible rfl
  try simp only [List.getElem_toArray, List.getElem_cons_zero, List.getElem_cons_succ, Act.put, List.setIfInBounds_toArray, List.set_cons_zero, List.set_cons_succ]
  refine wpAnyH_one 7 _ rfl (by kernel_rfl) (by kernel_rfl) ?_
  skip
  intro Kt hK
  go_simp
  refine (rday_any f.known W2).mono ?_; rintro e W3 ⟨rfl, rfl⟩
  dsimp only
  rw [← unhide H1]
  refine hK _ _ hS ?_
  clear hK Kt
  try simp only [List.getElem_toArray, List.getElem_cons_zero, List.getElem_cons_succ, Act.put, List.setIfInBounds_toArray, List.set_cons_zero, List.set_cons_succ]
  refine wpAnyH_take (i := 8) (v := ?_) rfl (by kernel_rfl) (by kernel_rfl) (by kernel_rfl) (fun _ _ _ h => h) (Or.inl ⟨by kernel_rfl, ?_⟩) (by assumption) ?_
  rotate_left
  · intro Wt hSt
    go_simp
    try with_reducible rfl
  try simp only [List.getElem_toArray, List.getElem_cons_zero, List.getElem_cons_succ, Act.put, List.setIfInBounds_toArray, List.set_cons_zero, List.set_cons_succ]
  refine wpAnyH_take (i := 9) (v := ?_) rfl (by kernel_rfl) (by kernel_rfl) (by kernel_rfl) (fun _ _ _ h => h) (Or.inl ⟨by kernel_rfl, ?_⟩) (by assumption) ?_
  rotate_left
  · intro Wt hSt
    go_simp
    try with_reducible rfl
  try simp only [List.getElem_toArray, List.getElem_cons_zero, List.getElem_cons_succ, Act.put, List.setIfInBounds_toArray, List.set_cons_zero, List.set_cons_succ]
  refine wpAnyH_take (i := 10) (v := ?_) rfl (by kernel_rfl) (by kernel_rfl) (by kernel_rfl) (fun _ _ _ h => h) (Or.inl ⟨by kernel_rfl, ?_⟩) (by assumption) ?_
  rotate_left
  · intro Wt hSt
    go_simp
    try with_reducible rfl
  try simp only [List.getElem_toArray, List.getElem_cons_zero, List.getElem_cons_succ, Act.put, List.setIfInBounds_toArray, List.set_cons_zero, List.set_cons_succ]
  cases d1
  case false =>
    refine wpAnyH_take (i := 11) (v := undef) rfl (by kernel_rfl) (by kernel_rfl) (by kernel_rfl) (fun _ _ _ h => h) (Or.inr ⟨by kernel_rfl, rfl⟩) (by assumption) ?_
    try simp only [List.getElem_toArray, List.getElem_cons_zero, List.getElem_cons_succ, Act.put, List.setIfInBounds_toArray, List.set_cons_zero, List.set_cons_succ]
    refine wpAnyH_skip 12 _ rfl (by kernel_rfl) (by kernel_rfl) (by assumption) ?_
    try simp only [List.getElem_toArray, List.getElem_cons_zero, List.getElem_cons_succ, Act.put, List.setIfInBounds_toArray, List.set_cons_zero, List.set_cons_succ]
    refine wpAnyH_take (i := 13) (v := undef) rfl (by kernel_rfl) (by kernel_rfl) (by kernel_rfl) (fun _ _ _ h => h) (Or.inr ⟨by kernel_rfl, rfl⟩) (by assumption) ?_
    try simp only [List.getElem_toArray, List.getElem_cons_zero, List.getElem_cons_succ, Act.put, List.setIfInBounds_toArray, List.set_cons_zero, List.set_cons_succ]
    refine wpAnyH_take (i := 14) (v := ?_) rfl (by kernel_rfl) (by kernel_rfl) (by kernel_rfl) (fun _ _ _ h => h) (Or.inl ⟨by kernel_rfl, ?_⟩) (by assumption) ?_
    rotate_left
    · intro Wt hSt
      go_simp
      try with_reducible rfl
    try simp only [List.getElem_toArray, List.getElem_cons_zero, List.getElem_cons_succ, Act.put, List.setIfInBounds_toArray, List.set_cons_zero, List.set_cons_succ]
    refine wpAnyH_take (i := 15) (v := ?_) rfl (by kernel_rfl) (by kernel_rfl) (by kernel_rfl) (fun _ _ _ h => h) (Or.inl ⟨by kernel_rfl, ?_⟩) (by assumption) ?_
    rotate_left
    · intro Wt hSt
      go_simp
      try with_reducible rfl
    try simp only [List.getElem_toArray, List.getElem_cons_zero, List.getElem_cons_succ, Act.put, List.setIfInBounds_toArray, List.set_cons_zero, List.set_cons_succ]
    refine wpAnyH_take (i := 16) (v := undef) rfl (by kernel_rfl) (by kernel_rfl) (by kernel_rfl) (fun _ _ _ h => h) (Or.inr ⟨by kernel_rfl, rfl⟩) (by assumption) ?_
    try simp only [List.getElem_toArray, List.getElem_cons_zero, List.getElem_cons_succ, Act.put, List.setIfInBounds_toArray, List.set_cons_zero, List.set_cons_succ]
    refine wpAnyH_take (i := 18) (v := undef) rfl (by kernel_rfl) (by kernel_rfl) (by kernel_rfl) (fun _ _ _ h => h) (Or.inr ⟨by kernel_rfl, rfl⟩) (by assumption) ?_
    try simp only [List.getElem_toArray, List.getElem_cons_zero, List.getElem_cons_succ, Act.put, List.setIfInBounds_toArray, List.set_cons_zero, List.set_cons_succ]
    refine wpAnyH_skip 17 _ rfl (by kernel_rfl) (by kernel_rfl) (by assumption) ?_
    try simp only [List.getElem_toArray, List.getElem_cons_zero, List.getElem_cons_succ, Act.put, List.setIfInBounds_toArray, List.set_cons_zero, List.set_cons_succ]
    refine wpAnyH_skip 19 _ rfl (by kernel_rfl) (by kernel_rfl) (by assumption) ?_
    try simp only [List.getElem_toArray, List.getElem_cons_zero, List.getElem_cons_succ, Act.put, List.setIfInBounds_toArray, List.set_cons_zero, List.set_cons_succ]
    refine wpAnyH_take (i := 20) (v := undef) rfl (by kernel_rfl) (by kernel_rfl) (by kernel_rfl) (fun _ _ _ h => h) (Or.inr ⟨by kernel_rfl, rfl⟩) (by assumption) ?_
    try simp only [List.getElem_toArray, List.getElem_cons_zero, List.getElem_cons_succ, Act.put, List.setIfInBounds_toArray, List.set_cons_zero, List.set_cons_succ]
    refine wpAnyH_take (i := 21) (v := ?_) rfl (by kernel_rfl) (by kernel_rfl) (by kernel_rfl) (fun _ _ _ h => h) (Or.inl ⟨by kernel_rfl, ?_⟩) (by assumption) ?_
    rotate_left
    · intro Wt hSt
      go_simp
      try with_reducible rfl
    try simp only [List.getElem_toArray, List.getElem_cons_zero, List.getElem_cons_succ, Act.put, List.setIfInBounds_toArray, List.set_cons_zero, List.set_cons_succ]
    refine wpAnyH_chainOf [] _ _ _ (by kernel_rfl) (by kernel_rfl) ?_
    refine wpChain_nil ?_
    go_wp2_with fail
    go_ret
    exact ⟨by rw [unhide HR]; rfl, unhide HB⟩
  refine wpAnyH_take (i := 11) (v := .agg (fC f a).toArray) rfl (by kernel_rfl) (by kernel_rfl) (by kernel_rfl) (fun _ _ _ h => h) (Or.inl ⟨by kernel_rfl, ?_⟩) (by assumption) ?_
  · intro Wt hSt
    exact run_load_op 45 (.tmp 1) rfl w.heap.size 0 rfl (fC f a) _ hSt.range Tryz.underlying45 rfl (by rw [fC_length _ _ (unhide H32)]; exact infoFc)
  try simp only [List.getElem_toArray, List.getElem_cons_zero, List.getElem_cons_succ, Act.put, List.setIfInBounds_toArray, List.set_cons_zero, List.set_cons_succ]
  refine wpAnyH_one 12 _ rfl (by kernel_rfl) (by kernel_rfl) ?_
  skip
  intro Kt hK
  go_simp
  refine (rcontent_any f a W3 ((unhide HF).keep (unhide HB)) (unhide HLIM)).mono ?_; rintro e W4 ⟨rfl, hG⟩
  dsimp only
  rw [← unhide HC]
  replace hS := hS.keep hG
  replace HB := hide (thenB (unhide HB) hG)
  refine hK _ _ hS ?_
  clear hK Kt hG
  try simp only [List.getElem_toArray, List.getElem_cons_zero, List.getElem_cons_succ, Act.put, List.setIfInBounds_toArray, List.set_cons_zero, List.set_cons_succ]
  refine wpAnyH_take (i := 13) (v := ?_) rfl (by kernel_rfl) (by kernel_rfl) (by kernel_rfl) (fun _ _ _ h => h) (Or.inl ⟨by kernel_rfl, ?_⟩) (by assumption) ?_
  rotate_left
  · intro Wt hSt
    go_simp
    try with_reducible rfl
  try simp only [List.getElem_toArray, List.getElem_cons_zero, List.getElem_cons_succ, Act.put, List.setIfInBounds_toArray, List.set_cons_zero, List.set_cons_succ]
  refine wpAnyH_take (i := 14) (v := ?_) rfl (by kernel_rfl) (by kernel_rfl) (by kernel_rfl) (fun _ _ _ h => h) (Or.inl ⟨by kernel_rfl, ?_⟩) (by assumption) ?_
  rotate_left
  · intro Wt hSt
    go_simp
    try with_reducible rfl
  try simp only [List.getElem_toArray, List.getElem_cons_zero, List.getElem_cons_succ, Act.put, List.setIfInBounds_toArray, List.set_cons_zero, List.set_cons_succ]
  refine wpAnyH_take (i := 15) (v := ?_) rfl (by kernel_rfl) (by kernel_rfl) (by kernel_rfl) (fun _ _ _ h => h) (Or.inl ⟨by kernel_rfl, ?_⟩) (by assumption) ?_
  rotate_left
  · intro Wt hSt
    go_simp
    try with_reducible rfl
  try simp only [List.getElem_toArray, List.getElem_cons_zero, List.getElem_cons_succ, Act.put, List.setIfInBounds_toArray, List.set_cons_zero, List.set_cons_succ]
  cases c
  case false =>
    refine wpAnyH_take (i := 16) (v := undef) rfl (by kernel_rfl) (by kernel_rfl) (by kernel_rfl) (fun _ _ _ h => h) (Or.inr ⟨by kernel_rfl, rfl⟩) (by assumption) ?_
    try simp only [List.getElem_toArray, List.getElem_cons_zero, List.getElem_cons_succ, Act.put, List.setIfInBounds_toArray, List.set_cons_zero, List.set_cons_succ]
    refine wpAnyH_take (i := 18) (v := undef) rfl (by kernel_rfl) (by kernel_rfl) (by kernel_rfl) (fun _ _ _ h => h) (Or.inr ⟨by kernel_rfl, rfl⟩) (by assumption) ?_
    try simp only [List.getElem_toArray, List.getElem_cons_zero, List.getElem_cons_succ, Act.put, List.setIfInBounds_toArray, List.set_cons_zero, List.set_cons_succ]
    refine wpAnyH_skip 17 _ rfl (by kernel_rfl) (by kernel_rfl) (by assumption) ?_
    try simp only [List.getElem_toArray, List.getElem_cons_zero, List.getElem_cons_succ, Act.put, List.setIfInBounds_toArray, List.set_cons_zero, List.set_cons_succ]
    refine wpAnyH_skip 19 _ rfl (by kernel_rfl) (by kernel_rfl) (by assumption) ?_
    try simp only [List.getElem_toArray, List.getElem_cons_zero, List.getElem_cons_succ, Act.put, List.setIfInBounds_toArray, List.set_cons_zero, List.set_cons_succ]
    refine wpAnyH_take (i := 20) (v := undef) rfl (by kernel_rfl) (by kernel_rfl) (by kernel_rfl) (fun _ _ _ h => h) (Or.inr ⟨by kernel_rfl, rfl⟩) (by assumption) ?_
    try simp only [List.getElem_toArray, List.getElem_cons_zero, List.getElem_cons_succ, Act.put, List.setIfInBounds_toArray, List.set_cons_zero, List.set_cons_succ]
    refine wpAnyH_take (i := 21) (v := ?_) rfl (by kernel_rfl) (by kernel_rfl) (by kernel_rfl) (fun _ _ _ h => h) (Or.inl ⟨by kernel_rfl, ?_⟩) (by assumption) ?_
    rotate_left
    · intro Wt hSt
      go_simp
      try with_reducible rfl
    try simp only [List.getElem_toArray, List.getElem_cons_zero, List.getElem_cons_succ, Act.put, List.setIfInBounds_toArray, List.set_cons_zero, List.set_cons_succ]
    refine wpAnyH_chainOf [] _ _ _ (by kernel_rfl) (by kernel_rfl) ?_
    refine wpChain_nil ?_
    go_wp2_with fail
    go_ret
    exact ⟨by rw [unhide HR]; rfl, unhide HB⟩
  refine wpAnyH_take (i := 16) (v := .agg (fC f a).toArray) rfl (by kernel_rfl) (by kernel_rfl) (by kernel_rfl) (fun _ _ _ h => h) (Or.inl ⟨by kernel_rfl, ?_⟩) (by assumption) ?_
  · intro Wt hSt
    exact run_load_op 45 (.tmp 1) rfl w.heap.size 0 rfl (fC f a) _ hSt.range Tryz.underlying45 rfl (by rw [fC_length _ _ (unhide H32)]; exact infoFc)
  try simp only [List.getElem_toArray, List.getElem_cons_zero, List.getElem_cons_succ, Act.put, List.setIfInBounds_toArray, List.set_cons_zero, List.set_cons_succ]
  refine wpAnyH_take (i := 18) (v := .agg (fC f a).toArray) rfl (by kernel_rfl) (by kernel_rfl) (by kernel_rfl) (fun _ _ _ h => h) (Or.inl ⟨by kernel_rfl, ?_⟩) (by assumption) ?_
  · intro Wt hSt
    exact run_load_op 45 (.tmp 1) rfl w.heap.size 0 rfl (fC f a) _ hSt.range Tryz.underlying45 rfl (by rw [fC_length _ _ (unhide H32)]; exact infoFc)
  try simp only [List.getElem_toArray, List.getElem_cons_zero, List.getElem_cons_succ, Act.put, List.setIfInBounds_toArray, List.set_cons_zero, List.set_cons_succ]
  refine wpAnyH_one 17 _ rfl (by kernel_rfl) (by kernel_rfl) ?_
  skip
  intro Kt hK
  go_simp
  refine (ronly_any f a (unhide H32) W4).mono ?_; rintro e W5 ⟨rfl, hG⟩
  dsimp only
  replace hS := hS.keep hG
  replace HB := hide (thenB (unhide HB) hG)
  refine hK _ _ hS ?_
  clear hK Kt hG
  try simp only [List.getElem_toArray, List.getElem_cons_zero, List.getElem_cons_succ, Act.put, List.setIfInBounds_toArray, List.set_cons_zero, List.set_cons_succ]
  refine wpAnyH_one 19 _ rfl (by kernel_rfl) (by kernel_rfl) ?_
  skip
  intro Kt hK
  go_simp
  refine (rsame_any (withHead f (fOwn f.kind f)) f (aOwn f.kind a) a W5 ((((unhide HF).keep (unhide HB)).own f.kind (kind_of_hold (unhide HC).symm).1 (kind_of_hold (unhide HC).symm).2).head f) ((unhide HF).keep (unhide HB))).mono ?_; rintro e W6 ⟨rfl, hG⟩
  dsimp only
  rw [← unhide HZ]
  replace hS := hS.keep hG
  replace HB := hide (thenB (unhide HB) hG)
  refine hK _ _ hS ?_
  clear hK Kt hG
  try simp only [List.getElem_toArray, List.getElem_cons_zero, List.getElem_cons_succ, Act.put, List.setIfInBounds_toArray, List.set_cons_zero, List.set_cons_succ]
  refine wpAnyH_take (i := 20) (v := ?_) rfl (by kernel_rfl) (by kernel_rfl) (by kernel_rfl) (fun _ _ _ h => h) (Or.inl ⟨by kernel_rfl, ?_⟩) (by assumption) ?_
  rotate_left
  · intro Wt hSt
    go_simp
    try with_reducible rfl
  try simp only [List.getElem_toArray, List.getElem_cons_zero, List.getElem_cons_succ, Act.put, List.setIfInBounds_toArray, List.set_cons_zero, List.set_cons_succ]
  refine wpAnyH_take (i := 21) (v := ?_) rfl (by kernel_rfl) (by kernel_rfl) (by kernel_rfl) (fun _ _ _ h => h) (Or.inl ⟨by kernel_rfl, ?_⟩) (by assumption) ?_
  rotate_left
  · intro Wt hSt
    go_simp
    try with_reducible rfl
  try simp only [List.getElem_toArray, List.getElem_cons_zero, List.getElem_cons_succ, Act.put, List.setIfInBounds_toArray, List.set_cons_zero, List.set_cons_succ]
  refine wpAnyH_chainOf [] _ _ _ (by kernel_rfl) (by kernel_rfl) ?_
  refine wpChain_nil ?_
  cases z
  case false =>
    go_wp2_with fail
    go_ret
    exact ⟨by rw [unhide HR]; rfl, unhide HB⟩
  go_wp2_with fail
  go_ret
  exact ⟨by rw [unhide HR]; rfl, unhide HB⟩
end Go.Proofs.YtdmaopfaeigelaaGreatDoor
namespace Go.Proofs.YtdmaopfaeigelaaGreatDoor
set_option linter.unusedSimpArgs false
set_option linter.unusedVariables false
set_option maxRecDepth 100000
open Go.RowKit

theorem gC_one (g : Gm) : ∀ v ∈ gC g, v.oneCell' = true := by
  intro v hv
  simp only [gC, List.mem_cons, List.not_mem_nil, or_false] at hv
  rcases hv with rfl | rfl | rfl | rfl <;> rfl
set_option maxHeartbeats 8000000 in
theorem check_core (cs gs : List Value) (sm : Bool) (rf rg : Int) (w : World) (hlc : cs.length = 82) (hlg : gs.length = 4) (hoc : ∀ v ∈ cs, v.oneCell' = true)
    (hsane : ∀ W, Below w.heap.size w W → Calls Tryz.prog 11 #[] W fun x w' => x = .returned (.bool true) ∧ Below W.heap.size W w')
    (hfew : ∀ W bb, VsAt W bb 45 (cs ++ []) → Calls Tryz.prog 12 #[.slice (some ⟨bb, 0, none⟩) 1 1] W fun x w' => x = .returned (.bool sm) ∧ Below W.heap.size W w')
    (hcf : sm = true → ∀ W, Below w.heap.size w W → Calls Tryz.prog 13 #[.agg cs.toArray] W fun x w' => x = .returned (.int .i64 rf) ∧ Below W.heap.size W w')
    (hcr : sm = true → ∀ W, Below w.heap.size w W → Calls Tryz.prog 14 #[.agg cs.toArray] W fun x w' => x = .returned (.int .i64 rf) ∧ Below W.heap.size W w')
    (hgf : ∀ W, Calls Tryz.prog 15 #[.agg gs.toArray] W fun x w' => x = .returned (.int .i64 rg) ∧ Below W.heap.size W w')
    (hgr : ∀ W, Calls Tryz.prog 16 #[.agg gs.toArray] W fun x w' => x = .returned (.int .i64 rg) ∧ Below W.heap.size W w') :
    Calls Tryz.prog 3 #[.agg cs.toArray, .agg gs.toArray] w (LawOk w) := by
  have HSANE := hide hsane; have HFEW := hide hfew; have HLC := hide hlc; have HLG := hide hlg; have HOC := hide hoc
  have HCF := hide hcf; have HCR := hide hcr; have HGF := hide hgf; have HGR := hide hgr
  clear hsane hfew hlc hlg hoc hcf hcr hgf hgr
  go_enter Tryz.func3, Tryz.ntmps3
  go_upto_region 1 with fail
  generalize hX1 : w.alloc _ = W1
  have hB1 : Below w.heap.size w W1 := hX1 ▸ (Below.refl _ _).alloc (Nat.le_refl _) _
  have hV1 := boxedV w W1 cs 45 (by rw [← hX1]; rfl)
  have hz1 : W1.heap.size = w.heap.size + 1 := by rw [← hX1]; show (w.heap.push _).size = _; rw [Array.size_push]
  clear hX1
  generalize hX2 : W1.alloc _ = W2
  have hB2 : Below W1.heap.size W1 W2 := hX2 ▸ (Below.refl _ _).alloc (Nat.le_refl _) _
  have hV2 := boxedV W1 W2 gs 26 (by rw [← hX2]; rfl)
  rw [hz1] at hV2
  have HB2 := hide (thenB hB1 hB2); have HV1 := hide (hV1.keep hB2); have HV2 := hide hV2
  clear hX2 hB2 hV2 hz1 hV1 hB1
  go_wp2_with fail
  refine ((unhide HSANE) W2 (unhide HB2)).mono ?_; rintro e W3 ⟨rfl, hb⟩
  have HB3 := hide (thenB (unhide HB2) hb); have HV13 := hide ((unhide HV1).keep hb); have HV23 := hide ((unhide HV2).keep hb)
  clear hb HB2 HV1 HV2
  go_upto_region 3 with fail
  refine wp_region_lit ?_
  refine wpList_vload rfl 45 (.tmp 2) rfl w.heap.size 0 rfl _ Tryz.underlying45 rfl cs (by rw [unhide HLC]; exact infoFc) (unhide HV13).range ?_
  try simp only [List.getElem_toArray, List.getElem_cons_zero, List.getElem_cons_succ, Act.put, List.setIfInBounds_toArray, List.set_cons_zero, List.set_cons_succ]
  refine wpList_buildRow rfl 78 45 1 _ rfl [.agg cs.toArray] 82 (by decide) Tryz.underlying78 infoFc (by kernel_rfl) rfl (by decide) (by decide) (by rw [Array.toList_map]; rfl) (by intro v hv; simp at hv; rcases hv with rfl; simp [Value.cells, unhide HLC]) ?_
  try simp only [List.getElem_toArray, List.getElem_cons_zero, List.getElem_cons_succ, Act.put, List.setIfInBounds_toArray, List.set_cons_zero, List.set_cons_succ]
  generalize hX4 : W3.alloc _ = W4
  have hB4 : Below W3.heap.size W3 W4 := hX4 ▸ (Below.refl _ _).alloc (Nat.le_refl _) _
  have hv4 := boxedV W3 W4 (cs ++ []) 45 (by rw [← hX4]; show W3.heap.push _ = _; simp [Value.cells])
  have HFW := hide ((unhide HFEW) W4 W3.heap.size hv4)
  have HB4 := hide (thenB (unhide HB3) hB4); have HV14 := hide ((unhide HV13).keep hB4); have HV24 := hide ((unhide HV23).keep hB4)
  clear hX4 hB4 hv4 HB3 HV13 HV23 HFEW HSANE
  refine wpList_wanted (by kernel_rfl) fun Kt hKt => ?_
  go_simp
  refine (unhide HFW).mono ?_; rintro x W5 ⟨rfl, hb⟩
  dsimp only
  refine hKt _ _ ?_
  clear hKt Kt
  try simp only [List.getElem_toArray, List.getElem_cons_zero, List.getElem_cons_succ, Act.put, List.setIfInBounds_toArray, List.set_cons_zero, List.set_cons_succ]
  have HB5 := hide (thenB (unhide HB4) hb); have HV15 := hide ((unhide HV14).keep hb); have HV25 := hide ((unhide HV24).keep hb)
  clear hb HB4 HV14 HV24 HFW
  cases sm
  case false =>
    go_wp2_with fail
    go_ret
    exact ⟨rfl, unhide HB5⟩
  refine wpList_plain rfl fun Kt hKt => ?_
  go_simp
  refine hKt _ _ ?_
  clear hKt Kt
  try simp only [List.getElem_toArray, List.getElem_cons_zero, List.getElem_cons_succ, Act.put, List.setIfInBounds_toArray, List.set_cons_zero, List.set_cons_succ]
  refine wpList_nil ?_
  go_upto_region 5 with fail
  obtain ⟨W, hW⟩ : ∃ W, W = W5.drewN 1 := ⟨_, rfl⟩
  have HW : Hid (W = W5.drewN 1) := hW
  have hS0 : Below W5.heap.size W5 W := below_named HW
  have hS : VsAt W w.heap.size 45 cs ∧ VsAt W (w.heap.size + 1) 26 gs := ⟨(unhide HV15).keep hS0, (unhide HV25).keep hS0⟩
  have HB := hide (thenB (unhide HB5) hS0)
  clear hS0 hW HB5 HV15 HV25
  refine held (S := fun V => VsAt V w.heap.size 45 cs ∧ VsAt V (w.heap.size + 1) 26 gs) W HW (by kernel_rfl) ?_
  refine wpAnyH_take (i := 0) (v := .agg cs.toArray) rfl (by kernel_rfl) (by kernel_rfl) (by kernel_rfl) (fun _ _ _ h => h) (Or.inl ⟨by kernel_rfl, ?_⟩) (by assumption) ?_
  · intro Wt hSt
    exact run_load_op 45 (.tmp 2) rfl w.heap.size 0 rfl cs _ hSt.1.range Tryz.underlying45 rfl (by rw [unhide HLC]; exact infoFc)
  try simp only [List.getElem_toArray, List.getElem_cons_zero, List.getElem_cons_succ, Act.put, List.setIfInBounds_toArray, List.set_cons_zero, List.set_cons_succ]
  refine wpAnyH_take (i := 2) (v := .agg cs.toArray) rfl (by kernel_rfl) (by kernel_rfl) (by kernel_rfl) (fun _ _ _ h => h) (Or.inl ⟨by kernel_rfl, ?_⟩) (by assumption) ?_
  · intro Wt hSt
    exact run_load_op 45 (.tmp 2) rfl w.heap.size 0 rfl cs _ hSt.1.range Tryz.underlying45 rfl (by rw [unhide HLC]; exact infoFc)
  try simp only [List.getElem_toArray, List.getElem_cons_zero, List.getElem_cons_succ, Act.put, List.setIfInBounds_toArray, List.set_cons_zero, List.set_cons_succ]
  refine wpAnyH_one 1 _ rfl (by kernel_rfl) (by kernel_rfl) ?_
  skip
  intro Kt hK
  go_simp
  refine (((unhide HCF) rfl W (unhide HB))).mono ?_; rintro e W6 ⟨rfl, hG⟩
  dsimp only
  replace hS := And.intro (hS.1.keep hG) (hS.2.keep hG)
  replace HB := hide (thenB (unhide HB) hG)
  refine hK _ _ hS ?_
  clear hK Kt hG
  try simp only [List.getElem_toArray, List.getElem_cons_zero, List.getElem_cons_succ, Act.put, List.setIfInBounds_toArray, List.set_cons_zero, List.set_cons_succ]
  refine wpAnyH_one 3 _ rfl (by kernel_rfl) (by kernel_rfl) ?_
  skip
  intro Kt hK
  go_simp
  refine (((unhide HCR) rfl W6 (unhide HB))).mono ?_; rintro e W7 ⟨rfl, hG⟩
  dsimp only
  replace hS := And.intro (hS.1.keep hG) (hS.2.keep hG)
  replace HB := hide (thenB (unhide HB) hG)
  refine hK _ _ hS ?_
  clear hK Kt hG
  try simp only [List.getElem_toArray, List.getElem_cons_zero, List.getElem_cons_succ, Act.put, List.setIfInBounds_toArray, List.set_cons_zero, List.set_cons_succ]
  refine wpAnyH_take (i := 4) (v := ?_) rfl (by kernel_rfl) (by kernel_rfl) (by kernel_rfl) (fun _ _ _ h => h) (Or.inl ⟨by kernel_rfl, ?_⟩) (by assumption) ?_
  rotate_left
  · intro Wt hSt
    go_simp
    try with_reducible rfl
  try simp only [List.getElem_toArray, List.getElem_cons_zero, List.getElem_cons_succ, Act.put, List.setIfInBounds_toArray, List.set_cons_zero, List.set_cons_succ]
  refine wpAnyH_take (i := 5) (v := ?_) rfl (by kernel_rfl) (by kernel_rfl) (by kernel_rfl) (fun _ _ _ h => h) (Or.inl ⟨by kernel_rfl, ?_⟩) (by assumption) ?_
  rotate_left
  · intro Wt hSt
    go_simp
    try with_reducible rfl
  try simp only [List.getElem_toArray, List.getElem_cons_zero, List.getElem_cons_succ, Act.put, List.setIfInBounds_toArray, List.set_cons_zero, List.set_cons_succ]
  refine wpAnyH_take (i := 6) (v := .agg gs.toArray) rfl (by kernel_rfl) (by kernel_rfl) (by kernel_rfl) (fun _ _ _ h => h) (Or.inl ⟨by kernel_rfl, ?_⟩) (by assumption) ?_
  · intro Wt hSt
    exact run_load_op 26 (.tmp 3) rfl (w.heap.size + 1) 0 rfl gs _ hSt.2.range Tryz.underlying26 rfl (by rw [unhide HLG]; exact infoGm)
  try simp only [List.getElem_toArray, List.getElem_cons_zero, List.getElem_cons_succ, Act.put, List.setIfInBounds_toArray, List.set_cons_zero, List.set_cons_succ]
  refine wpAnyH_take (i := 8) (v := .agg gs.toArray) rfl (by kernel_rfl) (by kernel_rfl) (by kernel_rfl) (fun _ _ _ h => h) (Or.inl ⟨by kernel_rfl, ?_⟩) (by assumption) ?_
  · intro Wt hSt
    exact run_load_op 26 (.tmp 3) rfl (w.heap.size + 1) 0 rfl gs _ hSt.2.range Tryz.underlying26 rfl (by rw [unhide HLG]; exact infoGm)
  try simp only [List.getElem_toArray, List.getElem_cons_zero, List.getElem_cons_succ, Act.put, List.setIfInBounds_toArray, List.set_cons_zero, List.set_cons_succ]
  refine wpAnyH_one 7 _ rfl (by kernel_rfl) (by kernel_rfl) ?_
  skip
  intro Kt hK
  go_simp
  refine (((unhide HGF) W7)).mono ?_; rintro e W8 ⟨rfl, hG⟩
  dsimp only
  replace hS := And.intro (hS.1.keep hG) (hS.2.keep hG)
  replace HB := hide (thenB (unhide HB) hG)
  refine hK _ _ hS ?_
  clear hK Kt hG
  try simp only [List.getElem_toArray, List.getElem_cons_zero, List.getElem_cons_succ, Act.put, List.setIfInBounds_toArray, List.set_cons_zero, List.set_cons_succ]
  refine wpAnyH_one 9 _ rfl (by kernel_rfl) (by kernel_rfl) ?_
  skip
  intro Kt hK
  go_simp
  refine (((unhide HGR) W8)).mono ?_; rintro e W9 ⟨rfl, hG⟩
  dsimp only
  replace hS := And.intro (hS.1.keep hG) (hS.2.keep hG)
  replace HB := hide (thenB (unhide HB) hG)
  refine hK _ _ hS ?_
  clear hK Kt hG
  try simp only [List.getElem_toArray, List.getElem_cons_zero, List.getElem_cons_succ, Act.put, List.setIfInBounds_toArray, List.set_cons_zero, List.set_cons_succ]
  refine wpAnyH_take (i := 10) (v := ?_) rfl (by kernel_rfl) (by kernel_rfl) (by kernel_rfl) (fun _ _ _ h => h) (Or.inl ⟨by kernel_rfl, ?_⟩) (by assumption) ?_
  rotate_left
  · intro Wt hSt
    go_simp
    try with_reducible rfl
  try simp only [List.getElem_toArray, List.getElem_cons_zero, List.getElem_cons_succ, Act.put, List.setIfInBounds_toArray, List.set_cons_zero, List.set_cons_succ]
  refine wpAnyH_take (i := 11) (v := ?_) rfl (by kernel_rfl) (by kernel_rfl) (by kernel_rfl) (fun _ _ _ h => h) (Or.inl ⟨by kernel_rfl, ?_⟩) (by assumption) ?_
  rotate_left
  · intro Wt hSt
    go_simp
    try with_reducible rfl
  try simp only [List.getElem_toArray, List.getElem_cons_zero, List.getElem_cons_succ, Act.put, List.setIfInBounds_toArray, List.set_cons_zero, List.set_cons_succ]
  refine wpAnyH_take (i := 12) (v := ?_) rfl (by kernel_rfl) (by kernel_rfl) (by kernel_rfl) (fun _ _ _ h => h) (Or.inl ⟨by kernel_rfl, ?_⟩) (by assumption) ?_
  rotate_left
  · intro Wt hSt
    go_simp
    try with_reducible rfl
  try simp only [List.getElem_toArray, List.getElem_cons_zero, List.getElem_cons_succ, Act.put, List.setIfInBounds_toArray, List.set_cons_zero, List.set_cons_succ]
  refine wpAnyH_chainOf [] _ _ _ (by kernel_rfl) (by kernel_rfl) ?_
  refine wpChain_nil ?_
  go_wp2_with fail
  go_ret
  exact ⟨by simp, unhide HB⟩
section
open Go.ChangeShapes Go.WideShapes Go.ChangeAt Go.Joins
variable {H : Type} {enc : TypeId × Value → H} {w : World} {b0 : Nat} {spare : Nat → Bool} {held : Bool} {r : Reach}
theorem game_of {v : Value} {d : DataW H} {p : List MemPlace} (hv : Value.okWide Tryz.prog w r b0 26 v) (h : DataW.Trod enc Tryz.prog w 0 spare held 26 v d p) :
    ∃ g, v = .agg (gC g).toArray := by
  obtain ⟨cs, rfl, hsz⟩ := okWide_struct Tryz.underlying26 hv
  obtain ⟨fuel, hf⟩ := h
  obtain ⟨g, e⟩ := gameC_at ⟨_, hf⟩
  have e' : cs.toList = gC g := by simpa [Value.cells] using e
  exact ⟨g, by rw [← e']⟩
end
theorem checkSpec_any (f : Fc) (a : Ad) (g : Gm) (w : World) (hf : FArg w f a) (hE : Env w) (hgt : gTop ≤ w.heap.size) :
    Calls Tryz.prog 3 #[.agg (fC f a).toArray, .agg (gC g).toArray] w (LawOk w) := by
  have hlim : smallF f = true → f.e.rules.size ≤ 1000000 := by
    intro h
    unfold smallF at h
    simp only [Bool.and_eq_true, decide_eq_true_eq] at h
    omega
  refine check_core (fC f a) (gC g) (smallF f) (if okFact f then 0 else 70) (if okGame g then 0 else 70) w (fC_length _ _ hf.void) rfl (fC_one _ _)
    (fun W hW => sane_any W (hE.to hgt hW) (Nat.le_trans hgt hW.size)) ?_ (fun hs W hW => check_any' f a W ((hf.at_ hs).keep hW) hf.wf) (fun hs W hW => rcheck_any f a W ((hf.at_ hs).keep hW) (hlim hs)) (fun W => gameE_any g W) (fun W => rgameE_any g W)
  intro W bb h
  have h1 := few_any bb 1 [(f, a)] W h (by intro p hp; simp at hp; rcases hp with rfl; exact hf.void) (by simp) (by simp)
  rw [show ([(f, a)].all fun p => smallF p.1) = smallF f by simp] at h1
  exact h1
end Go.Proofs.YtdmaopfaeigelaaGreatDoor
