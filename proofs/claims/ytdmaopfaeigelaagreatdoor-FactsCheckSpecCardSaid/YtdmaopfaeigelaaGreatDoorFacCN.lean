/- Contracts over the program of facts: the reference's content and only. -/
import Derived.Test.YtdmaopfaeigelaaGreatDoorFacCSR
namespace Go.Proofs.YtdmaopfaeigelaaGreatDoor
set_option linter.unusedSimpArgs false
set_option linter.unusedVariables false
set_option maxRecDepth 100000
open Go.RowKit

theorem to_ref (t : Int) : inR t (-1) 191 = (inR t 0 191 || decide (t = -1)) := by
  unfold inR
  by_cases h : t = -1
  · subst h; rfl
  · rw [decide_eq_false h, Bool.or_false]
    by_cases h2 : (0 : Int) ≤ t
    · rw [decide_eq_true h2, decide_eq_true (by omega : (-1 : Int) ≤ t)]
    · rw [decide_eq_false h2, decide_eq_false (by omega : ¬ (-1 : Int) ≤ t)]
theorem fHold_no (f : Fc) (h : ¬ (1 ≤ f.kind ∧ f.kind ≤ 8)) : fHold f.kind f = false := by
  unfold fHold
  split <;> first | rfl | (exfalso; omega)
set_option maxHeartbeats 4000000 in
theorem rcontent_any (f : Fc) (a : Ad) (w : World) (hf : FAt w f a) (hlim : f.e.rules.size ≤ 1000000) : Calls Tryz.prog 35 #[.agg (fC f a).toArray] w fun x w' => x = .returned (.bool (fHold f.kind f)) ∧ Below w.heap.size w w' := by
  obtain ⟨R, hR⟩ : ∃ R, R = fHold f.kind f := ⟨_, rfl⟩
  rw [← hR]
  have HR := hide hR; have HF := hide hf; have HLIM := hide hlim
  clear hR hf hlim
  obtain ⟨cs, hcs⟩ : ∃ zz, zz = fC f a := ⟨_, rfl⟩
  rw [← hcs]
  have HCS := hide hcs
  clear hcs
  go_enter Tryz.func35, Tryz.ntmps35
  go_upto_region 1 with fail
  generalize hX1 : w.alloc _ = W1
  have hB1 : Below w.heap.size w W1 := hX1 ▸ (Below.refl _ _).alloc (Nat.le_refl _) _
  have HV := hide (boxedV w W1 cs 45 (by rw [← hX1]; rfl))
  rw [unhide HCS] at HV
  have HB := hide hB1
  clear hX1 hB1 HCS
  have hc0 : W1.cell? ⟨w.heap.size, 0, none⟩ = some (.int .i64 f.kind) := (unhide HV).cell rfl
  by_cases hk : f.kind = 1
  · have hkk : (f.kind == 1) = true := by rw [beq_iff_eq]; exact hk
    have HK := hide hk
    clear hk
    have hkR : R = okEnt f.e := by rw [unhide HR, unhide HK]; rfl
    go_upto_region 3 with fail
    clear hc0 hkk
    refine wp_region_lit ?_
    refine wpList_plain rfl fun Kt hKt => ?_
    go_simp
    refine hKt _ _ ?_
    clear hKt Kt
    try simp only [List.getElem_toArray, List.getElem_cons_zero, List.getElem_cons_succ, Act.put, List.setIfInBounds_toArray, List.set_cons_zero, List.set_cons_succ]
    refine wpList_vload rfl 24 (.tmp 7) rfl w.heap.size 3 rfl _ Tryz.underlying24 rfl (eC f.e a.cl a.ncl) infoEn (unhide HV).fe ?_
    try simp only [List.getElem_toArray, List.getElem_cons_zero, List.getElem_cons_succ, Act.put, List.setIfInBounds_toArray, List.set_cons_zero, List.set_cons_succ]
    have hcc := rentrants_any f.e W1 a.cl f.e.clubs.length a.ncl rfl ((unhide HF).cl.keep (unhide HB)) (unhide HLIM)
    rw [← hkR] at hcc
    have HC := hide hcc
    clear hcc hkR
    go_wp2_with fail
    refine (unhide HC).mono ?_; rintro x W2 ⟨rfl, hG⟩
    have HB := hide (thenB (unhide HB) hG)
    clear hG
    go_wp2_with fail
    go_ret
    exact ⟨rfl, unhide HB⟩
  have hn1 : (f.kind == 1) = false := by rw [beq_eq_false_iff_ne]; exact hk
  have HN1 := hide hk
  clear hk
  by_cases hk : f.kind = 2
  · have hkk : (f.kind == 2) = true := by rw [beq_iff_eq]; exact hk
    have HK := hide hk
    clear hk
    obtain ⟨q0, hq0⟩ : ∃ b, b = (okGame f.xg) := ⟨_, rfl⟩
    obtain ⟨q1, hq1⟩ : ∃ b, b = (inR f.venue 0 4095) := ⟨_, rfl⟩
    have HKR : Hid (R = (q0 && q1)) := by
      have : R = (q0 && q1) := by
        rw [unhide HR, unhide HK, hq0, hq1]
        rfl
      exact this
    have Q0 := hide hq0; have Q1 := hide hq1
    clear hq0 hq1
    have hc7 : W1.cell? ⟨w.heap.size, 7, none⟩ = some (.int .i64 f.xg.s) := (unhide HV).cell rfl
    have hc8 : W1.cell? ⟨w.heap.size, 8, none⟩ = some (.int .i64 f.xg.c) := (unhide HV).cell rfl
    have hc9 : W1.cell? ⟨w.heap.size, 9, none⟩ = some (.int .i64 f.xg.h) := (unhide HV).cell rfl
    have hc10 : W1.cell? ⟨w.heap.size, 10, none⟩ = some (.int .i64 f.xg.a) := (unhide HV).cell rfl
    have hc11 : W1.cell? ⟨w.heap.size, 11, none⟩ = some (.int .i64 f.venue) := (unhide HV).cell rfl
    have HC := hide (rgame_any f.xg W1)
    rw [← unhide Q0] at HC
    go_wp2_with fail
    refine (unhide HC).mono ?_; rintro x W2 ⟨rfl, hG⟩
    clear HC hc0 hc7 hc8 hc9 hc10 hc11
    have HV := hide ((unhide HV).keep hG); have HB := hide (thenB (unhide HB) hG)
    clear hG
    have hc11 : W2.cell? ⟨w.heap.size, 11, none⟩ = some (.int .i64 f.venue) := (unhide HV).cell rfl
    cases q0
    case false =>
      go_wp2_with fail
      go_ret
      exact ⟨by rw [unhide HKR]; rfl, unhide HB⟩
    have HC := hide (rwithin_any f.venue 0 4095 W2)
    rw [← unhide Q1] at HC
    go_wp2_with fail
    refine (unhide HC).mono ?_; rintro x W3 ⟨rfl, rfl⟩
    go_wp2_with fail
    go_ret
    exact ⟨by rw [unhide HKR]; rfl, unhide HB⟩
  have hn2 : (f.kind == 2) = false := by rw [beq_eq_false_iff_ne]; exact hk
  have HN2 := hide hk
  clear hk
  by_cases hk : f.kind = 3
  · have hkk : (f.kind == 3) = true := by rw [beq_iff_eq]; exact hk
    have HK := hide hk
    clear hk
    have hkR : R = okSheet f.sh := by rw [unhide HR, unhide HK]; rfl
    go_upto_region 7 with fail
    clear hc0 hkk
    refine wp_region_lit ?_
    refine wpList_plain rfl fun Kt hKt => ?_
    go_simp
    refine hKt _ _ ?_
    clear hKt Kt
    try simp only [List.getElem_toArray, List.getElem_cons_zero, List.getElem_cons_succ, Act.put, List.setIfInBounds_toArray, List.set_cons_zero, List.set_cons_succ]
    refine wpList_vload rfl 31 (.tmp 24) rfl w.heap.size 12 rfl _ Tryz.underlying31 rfl (sC f.sh a) infoSh (unhide HV).fs ?_
    try simp only [List.getElem_toArray, List.getElem_cons_zero, List.getElem_cons_succ, Act.put, List.setIfInBounds_toArray, List.set_cons_zero, List.set_cons_succ]
    have hcc := rsheet_any f.sh a W1 ((unhide HF).hs.keep (unhide HB)) ((unhide HF).as_.keep (unhide HB)) ((unhide HF).hc.keep (unhide HB)) ((unhide HF).ac.keep (unhide HB))
    rw [← hkR] at hcc
    have HC := hide hcc
    clear hcc hkR
    go_wp2_with fail
    refine (unhide HC).mono ?_; rintro x W2 ⟨rfl, hG⟩
    have HB := hide (thenB (unhide HB) hG)
    clear hG
    go_wp2_with fail
    go_ret
    exact ⟨rfl, unhide HB⟩
  have hn3 : (f.kind == 3) = false := by rw [beq_eq_false_iff_ne]; exact hk
  have HN3 := hide hk
  clear hk
  by_cases hk : f.kind = 4
  · have hkk : (f.kind == 4) = true := by rw [beq_iff_eq]; exact hk
    have HK := hide hk
    clear hk
    have hkR : R = okRuling f.r := by rw [unhide HR, unhide HK]; rfl
    go_upto_region 9 with fail
    clear hc0 hkk
    refine wp_region_lit ?_
    refine wpList_plain rfl fun Kt hKt => ?_
    go_simp
    refine hKt _ _ ?_
    clear hKt Kt
    try simp only [List.getElem_toArray, List.getElem_cons_zero, List.getElem_cons_succ, Act.put, List.setIfInBounds_toArray, List.set_cons_zero, List.set_cons_succ]
    refine wpList_vload rfl 35 (.tmp 29) rfl w.heap.size 25 rfl _ Tryz.underlying35 rfl (rC f.r) infoRu (unhide HV).fr ?_
    try simp only [List.getElem_toArray, List.getElem_cons_zero, List.getElem_cons_succ, Act.put, List.setIfInBounds_toArray, List.set_cons_zero, List.set_cons_succ]
    have hcc := rruling_any f.r W1
    rw [← hkR] at hcc
    have HC := hide hcc
    clear hcc hkR
    go_wp2_with fail
    refine (unhide HC).mono ?_; rintro x W2 ⟨rfl, hG⟩
    have HB := hide (thenB (unhide HB) hG)
    clear hG
    go_wp2_with fail
    go_ret
    exact ⟨rfl, unhide HB⟩
  have hn4 : (f.kind == 4) = false := by rw [beq_eq_false_iff_ne]; exact hk
  have HN4 := hide hk
  clear hk
  by_cases hk : f.kind = 5
  · have hkk : (f.kind == 5) = true := by rw [beq_iff_eq]; exact hk
    have HK := hide hk
    clear hk
    obtain ⟨q0, hq0⟩ : ∃ b, b = (inR f.ac 1 1048576) := ⟨_, rfl⟩
    obtain ⟨q1, hq1⟩ : ∃ b, b = (inR f.ai 1 2) := ⟨_, rfl⟩
    have HKR : Hid (R = (q0 && q1)) := by
      have : R = (q0 && q1) := by
        rw [unhide HR, unhide HK, hq0, hq1]
        rfl
      exact this
    have Q0 := hide hq0; have Q1 := hide hq1
    clear hq0 hq1
    have hc42 : W1.cell? ⟨w.heap.size, 42, none⟩ = some (.int .i64 f.ac) := (unhide HV).cell rfl
    have hc43 : W1.cell? ⟨w.heap.size, 43, none⟩ = some (.int .i64 f.ai) := (unhide HV).cell rfl
    have HC := hide (rwithin_any f.ac 1 1048576 W1)
    rw [← unhide Q0] at HC
    go_wp2_with fail
    refine (unhide HC).mono ?_; rintro x W2 ⟨rfl, rfl⟩
    clear HC
    cases q0
    case false =>
      go_wp2_with fail
      go_ret
      exact ⟨by rw [unhide HKR]; rfl, unhide HB⟩
    have HC := hide (rwithin_any f.ai 1 2 W2)
    rw [← unhide Q1] at HC
    go_wp2_with fail
    refine (unhide HC).mono ?_; rintro x W3 ⟨rfl, rfl⟩
    go_wp2_with fail
    go_ret
    exact ⟨by rw [unhide HKR]; rfl, unhide HB⟩
  have hn5 : (f.kind == 5) = false := by rw [beq_eq_false_iff_ne]; exact hk
  have HN5 := hide hk
  clear hk
  by_cases hk : f.kind = 6
  · have hkk : (f.kind == 6) = true := by rw [beq_iff_eq]; exact hk
    have HK := hide hk
    clear hk
    obtain ⟨q0, hq0⟩ : ∃ b, b = (inR f.mp 0 8191) := ⟨_, rfl⟩
    obtain ⟨q1, hq1⟩ : ∃ b, b = (inR f.mt (-1) 191) := ⟨_, rfl⟩
    have HKR : Hid (R = (q0 && q1)) := by
      have : R = (q0 && q1) := by
        rw [unhide HR, unhide HK, hq0, hq1]
        rw [to_ref]; rfl
      exact this
    have Q0 := hide hq0; have Q1 := hide hq1
    clear hq0 hq1
    have hc45 : W1.cell? ⟨w.heap.size, 45, none⟩ = some (.int .i64 f.mp) := (unhide HV).cell rfl
    have hc46 : W1.cell? ⟨w.heap.size, 46, none⟩ = some (.int .i64 f.mt) := (unhide HV).cell rfl
    have HC := hide (rplayer_any f.mp W1)
    rw [← unhide Q0] at HC
    go_wp2_with fail
    refine (unhide HC).mono ?_; rintro x W2 ⟨rfl, rfl⟩
    clear HC
    cases q0
    case false =>
      go_wp2_with fail
      go_ret
      exact ⟨by rw [unhide HKR]; rfl, unhide HB⟩
    have HC := hide (rwithin_any f.mt (-1) 191 W2)
    rw [← unhide Q1] at HC
    go_wp2_with fail
    refine (unhide HC).mono ?_; rintro x W3 ⟨rfl, rfl⟩
    go_wp2_with fail
    go_ret
    exact ⟨by rw [unhide HKR]; rfl, unhide HB⟩
  have hn6 : (f.kind == 6) = false := by rw [beq_eq_false_iff_ne]; exact hk
  have HN6 := hide hk
  clear hk
  by_cases hk : f.kind = 7
  · have hkk : (f.kind == 7) = true := by rw [beq_iff_eq]; exact hk
    have HK := hide hk
    clear hk
    have hkR : R = okLot f.ls f.lc f.order := by rw [unhide HR, unhide HK]; rfl
    go_upto_region 15 with fail
    clear hc0 hkk
    refine wp_region_lit ?_
    refine wpList_plain rfl fun Kt hKt => ?_
    go_simp
    refine hKt _ _ ?_
    clear hKt Kt
    try simp only [List.getElem_toArray, List.getElem_cons_zero, List.getElem_cons_succ, Act.put, List.setIfInBounds_toArray, List.set_cons_zero, List.set_cons_succ]
    refine wpList_vload rfl 41 (.tmp 58) rfl w.heap.size 47 rfl _ Tryz.underlying41 rfl (lC f.ls f.lc f.order a.od a.nod) infoLt (unhide HV).fl ?_
    try simp only [List.getElem_toArray, List.getElem_cons_zero, List.getElem_cons_succ, Act.put, List.setIfInBounds_toArray, List.set_cons_zero, List.set_cons_succ]
    have hcc := rlot_any f.ls f.lc f.order a.od f.order.length a.nod rfl W1 ((unhide HF).od.keep (unhide HB))
    rw [← hkR] at hcc
    have HC := hide hcc
    clear hcc hkR
    go_wp2_with fail
    refine (unhide HC).mono ?_; rintro x W2 ⟨rfl, hG⟩
    have HB := hide (thenB (unhide HB) hG)
    clear hG
    go_wp2_with fail
    go_ret
    exact ⟨rfl, unhide HB⟩
  have hn7 : (f.kind == 7) = false := by rw [beq_eq_false_iff_ne]; exact hk
  have HN7 := hide hk
  clear hk
  by_cases hk : f.kind = 8
  · have hkk : (f.kind == 8) = true := by rw [beq_iff_eq]; exact hk
    have HK := hide hk
    clear hk
    have e : R = true := by rw [unhide HR, unhide HK]; rfl
    subst e
    go_wp2_with fail
    go_ret
    exact ⟨rfl, unhide HB⟩
  have hn8 : (f.kind == 8) = false := by rw [beq_eq_false_iff_ne]; exact hk
  have HN8 := hide hk
  clear hk
  have e : R = false := (unhide HR).trans (fHold_no f fun h => by
    have := unhide HN1; have := unhide HN2; have := unhide HN3; have := unhide HN4; have := unhide HN5; have := unhide HN6; have := unhide HN7; have := unhide HN8
    omega)
  subst e
  go_wp2_with fail
  go_ret
  exact ⟨rfl, unhide HB⟩
/-- the head of a fact alone -/
def hdF (f : Fc) : Fc := withHead f f0
theorem one_of (f : Fc) (a : Ad) {cs : List Value} (h : ∀ v ∈ cs, v ∈ fC f a) : ∀ v ∈ cs, v.oneCell' = true := fun v hv => fC_one f a v (h v hv)
theorem own8 (f : Fc) (a : Ad) (h : f.void.length = 32) : spliceV (fC (hdF f) a0) (vC f) 50 = fC (withHead f (fOwn 8 f)) (aOwn 8 a) := by
  obtain ⟨l, hl⟩ : ∃ l, l = f.void.map (Value.int .u8) := ⟨_, rfl⟩
  have hn : l.length = 32 := by rw [hl, List.length_map, h]
  unfold spliceV vC
  rw [← hl]
  have e : (fC (hdF f) a0).drop (50 + l.length) = [] := by rw [List.drop_eq_nil_iff, fC_length _ _ rfl, hn]; omega
  rw [e, List.append_nil]
  have e2 : fC (withHead f (fOwn 8 f)) (aOwn 8 a) = (fC (hdF f) a0).take 50 ++ f.void.map (Value.int .u8) := rfl
  rw [e2, hl]
theorem own_no (f : Fc) (a : Ad) (h1 : ¬ f.kind = 1) (h2 : ¬ f.kind = 2) (h3 : ¬ f.kind = 3) (h4 : ¬ f.kind = 4) (h5 : ¬ f.kind = 5) (h6 : ¬ f.kind = 6) (h7 : ¬ f.kind = 7) (h8 : ¬ f.kind = 8) : fC (withHead f (fOwn f.kind f)) (aOwn f.kind a) = fC (withHead f f0) a0 := by
  have e1 : fOwn f.kind f = f0 := by
    unfold fOwn
    split <;> first | rfl | (exfalso; omega)
  have e2 : aOwn f.kind a = a0 := by
    unfold aOwn
    split <;> first | rfl | (exfalso; omega)
  rw [e1, e2]
set_option maxHeartbeats 8000000 in
theorem ronly_any (f : Fc) (a : Ad) (hv : f.void.length = 32) (w : World) : Calls Tryz.prog 36 #[.agg (fC f a).toArray] w fun x w' => x = .returned (.agg (fC (withHead f (fOwn f.kind f)) (aOwn f.kind a)).toArray) ∧ Below w.heap.size w w' := by
  obtain ⟨R, hR⟩ : ∃ R, R = fC (withHead f (fOwn f.kind f)) (aOwn f.kind a) := ⟨_, rfl⟩
  rw [← hR]
  have HR := hide hR; have H32 := hide hv
  clear hR hv
  obtain ⟨cs, hcs⟩ : ∃ zz, zz = fC f a := ⟨_, rfl⟩
  rw [← hcs]
  have HCS := hide hcs
  clear hcs
  go_enter Tryz.func36, Tryz.ntmps36
  go_upto_region 1 with fail
  generalize hX1 : w.alloc _ = W1
  have hB1 : Below w.heap.size w W1 := hX1 ▸ (Below.refl _ _).alloc (Nat.le_refl _) _
  have hv1 := boxedV w W1 cs 45 (by rw [← hX1]; rfl)
  have hz1 : W1.heap.size = w.heap.size + 1 := by rw [← hX1]; show (w.heap.push _).size = _; rw [Array.size_push]
  generalize hX2 : W1.alloc _ = W2
  have hB2 : Below W1.heap.size W1 W2 := hX2 ▸ (Below.refl _ _).alloc (Nat.le_refl _) _
  have hz2 : W2.heap.size = w.heap.size + 2 := by rw [← hX2]; show (W1.heap.push _).size = _; rw [Array.size_push, hz1]
  have HP := hide (boxedV W1 W2 (fC f0 a0) 45 (by rw [← hX2]; rfl))
  rw [hz1] at HP
  have HV := hide (hv1.keep hB2)
  rw [unhide HCS] at HV
  have HB := hide (thenB hB1 hB2)
  have HZ := hide hz2
  clear hX1 hB1 hv1 hz1 hX2 hB2 hz2 HCS
  have hc0 : W2.cell? ⟨w.heap.size, 0, none⟩ = some (.int .i64 f.kind) := (unhide HV).cell rfl
  have hc1 : W2.cell? ⟨w.heap.size, 1, none⟩ = some (.int .i64 f.day) := (unhide HV).cell rfl
  have hc2 : W2.cell? ⟨w.heap.size, 2, none⟩ = some (.int .i64 f.known) := (unhide HV).cell rfl
  refine wp_region_lit ?_
  refine wpList_plain rfl fun Kt hKt => ?_
  go_simp
  refine hKt _ _ ?_
  clear hKt Kt
  try simp only [List.getElem_toArray, List.getElem_cons_zero, List.getElem_cons_succ, Act.put, List.setIfInBounds_toArray, List.set_cons_zero, List.set_cons_succ]
  refine wpList_plain rfl fun Kt hKt => ?_
  go_simp
  refine hKt _ _ ?_
  clear hKt Kt
  try simp only [List.getElem_toArray, List.getElem_cons_zero, List.getElem_cons_succ, Act.put, List.setIfInBounds_toArray, List.set_cons_zero, List.set_cons_succ]
  refine wpList_plain rfl fun Kt hKt => ?_
  go_simp
  refine hKt _ _ ?_
  clear hKt Kt
  try simp only [List.getElem_toArray, List.getElem_cons_zero, List.getElem_cons_succ, Act.put, List.setIfInBounds_toArray, List.set_cons_zero, List.set_cons_succ]
  refine wpList_plain rfl fun Kt hKt => ?_
  go_simp
  refine hKt _ _ ?_
  clear hKt Kt
  try simp only [List.getElem_toArray, List.getElem_cons_zero, List.getElem_cons_succ, Act.put, List.setIfInBounds_toArray, List.set_cons_zero, List.set_cons_succ]
  refine wpList_plain rfl fun Kt hKt => ?_
  go_simp
  refine hKt _ _ ?_
  clear hKt Kt
  try simp only [List.getElem_toArray, List.getElem_cons_zero, List.getElem_cons_succ, Act.put, List.setIfInBounds_toArray, List.set_cons_zero, List.set_cons_succ]
  refine wpList_plain rfl fun Kt hKt => ?_
  go_simp
  refine hKt _ _ ?_
  clear hKt Kt
  try simp only [List.getElem_toArray, List.getElem_cons_zero, List.getElem_cons_succ, Act.put, List.setIfInBounds_toArray, List.set_cons_zero, List.set_cons_succ]
  refine wpList_build rfl 45 _ rfl (fC (hdF f) a0).toArray (by kernel_rfl) ?_
  try simp only [List.getElem_toArray, List.getElem_cons_zero, List.getElem_cons_succ, Act.put, List.setIfInBounds_toArray, List.set_cons_zero, List.set_cons_succ]
  refine wpList_plain rfl fun Kt hKt => ?_
  go_simp
  generalize hX4 : W2.alloc _ = W4
  have hB4 : Below W2.heap.size W2 W4 := hX4 ▸ (Below.refl _ _).alloc (Nat.le_refl _) _
  have hv4 := boxedV W2 W4 (fC f0 a0) 45 (by rw [← hX4]; rfl)
  rw [unhide HZ] at hv4 ⊢
  refine hKt _ _ ?_
  clear hKt Kt hX4 hc0 hc1 hc2 HZ
  try simp only [List.getElem_toArray, List.getElem_cons_zero, List.getElem_cons_succ, Act.put, List.setIfInBounds_toArray, List.set_cons_zero, List.set_cons_succ]
  have HV := hide ((unhide HV).keep hB4); have HP := hide ((unhide HP).keep hB4); have HB := hide (thenB (unhide HB) hB4)
  refine wpList_vput rfl 45 (.tmp 3) (.tmp 10) rfl (w.heap.size + 2) 0 rfl (fC (hdF f) a0) rfl (by rw [fC_length _ _ rfl]; exact infoFc) (fC_one _ _) _ (fC f0 a0) hv4 (by rw [fC_length _ _ rfl, fC_length _ _ rfl]; omega) ?_
  intro W5 HW5 HG5
  rw [spliceV_all _ _ (by rw [fC_length _ _ rfl, fC_length _ _ rfl])] at HW5
  have HV := hide ((unhide HV).grown (unhide HG5) (fun e => by injection e with e; omega))
  have HP := hide ((unhide HP).grown (unhide HG5) (fun e => by injection e with e; omega))
  have HB := hide ((unhide HB).grown (unhide HG5) (unhide HB).size (fun i e => by injection e with e; omega))
  clear hB4 hv4 HG5
  refine wpList_nil ?_
  have hc0 : W5.cell? ⟨w.heap.size, 0, none⟩ = some (.int .i64 f.kind) := (unhide HV).cell rfl
  by_cases hk : f.kind = 1
  · have hkk : (f.kind == 1) = true := by rw [beq_iff_eq]; exact hk
    have HK := hide hk
    clear hk
    have HRK : Hid (R = fC (withHead f (fOwn 1 f)) (aOwn 1 a)) := by
      have : R = fC (withHead f (fOwn 1 f)) (aOwn 1 a) := by rw [unhide HR, unhide HK]
      exact this
    go_upto_region 4 with fail
    clear hc0 hkk
    refine wp_region_lit ?_
    refine wpList_plain rfl fun Kt hKt => ?_
    go_simp
    refine hKt _ _ ?_
    clear hKt Kt
    try simp only [List.getElem_toArray, List.getElem_cons_zero, List.getElem_cons_succ, Act.put, List.setIfInBounds_toArray, List.set_cons_zero, List.set_cons_succ]
    refine wpList_vload rfl 24 (.tmp 15) rfl w.heap.size 3 rfl _ Tryz.underlying24 rfl (eC f.e a.cl a.ncl) infoEn (unhide HV).fe ?_
    try simp only [List.getElem_toArray, List.getElem_cons_zero, List.getElem_cons_succ, Act.put, List.setIfInBounds_toArray, List.set_cons_zero, List.set_cons_succ]
    refine wpList_plain rfl fun Kt hKt => ?_
    go_simp
    refine hKt _ _ ?_
    clear hKt Kt
    try simp only [List.getElem_toArray, List.getElem_cons_zero, List.getElem_cons_succ, Act.put, List.setIfInBounds_toArray, List.set_cons_zero, List.set_cons_succ]
    refine wpList_vput rfl 24 (.tmp 17) (.tmp 16) rfl (w.heap.size + 2) 3 rfl (eC f.e a.cl a.ncl) rfl infoEn (one_of f a (fun v hv => by rw [fC_eq]; simp only [List.mem_append]; simp [hv])) _ (fC (hdF f) a0) (unhide HW5) (by rw [fC_length _ _ rfl]; show 3 + 4 ≤ 82; omega) ?_
    intro W6 HW6 HG6
    have HO := hide (show VsAt W6 (w.heap.size + 2) 45 (fC (withHead f (fOwn 1 f)) (aOwn 1 a)) from (show spliceV (fC (hdF f) a0) (eC f.e a.cl a.ncl) 3 = fC (withHead f (fOwn 1 f)) (aOwn 1 a) from rfl) ▸ unhide HW6)
    have HP := hide ((unhide HP).grown (unhide HG6) (fun e => by injection e with e; omega))
    have HB := hide ((unhide HB).grown (unhide HG6) (unhide HB).size (fun i e => by injection e with e; omega))
    clear HW6 HG6 HW5
    refine wpList_nil ?_
    go_upto_region 19 with fail
    try clear hc0
    refine wp_region_lit ?_
    refine wpList_vload rfl 45 (.tmp 3) rfl (w.heap.size + 2) 0 rfl _ Tryz.underlying45 rfl (fC (withHead f (fOwn 1 f)) (aOwn 1 a)) (by rw [fC_length _ _ rfl]; exact infoFc) (unhide HO).range ?_
    try simp only [List.getElem_toArray, List.getElem_cons_zero, List.getElem_cons_succ, Act.put, List.setIfInBounds_toArray, List.set_cons_zero, List.set_cons_succ]
    refine wpList_vput rfl 45 (.tmp 2) (.tmp 53) rfl (w.heap.size + 1) 0 rfl (fC (withHead f (fOwn 1 f)) (aOwn 1 a)) rfl (by rw [fC_length _ _ rfl]; exact infoFc) (fC_one _ _) _ (fC f0 a0) (unhide HP) (by rw [fC_length _ _ rfl]; rw [fC_length f0 a0 rfl]; omega) ?_
    intro W9 HW9 HG
    rw [spliceV_all _ _ (by rw [fC_length _ _ rfl]; rw [fC_length f0 a0 rfl])] at HW9
    go_wp2_with fail
    try simp only [Exit.inBlock, Exit.then]
    exact vret rfl rfl (w.heap.size + 1) rfl _ _ (unhide HW9) _ Tryz.underlying45 rfl (by rw [fC_length _ _ rfl]; exact infoFc) ⟨by rw [unhide HRK], (unhide HB).grown (unhide HG) (unhide HB).size (fun i e => by injection e with e; omega)⟩
  have hn1 : (f.kind == 1) = false := by rw [beq_eq_false_iff_ne]; exact hk
  have HN1 := hide hk
  clear hk
  by_cases hk : f.kind = 2
  · have hkk : (f.kind == 2) = true := by rw [beq_iff_eq]; exact hk
    have HK := hide hk
    clear hk
    have HRK : Hid (R = fC (withHead f (fOwn 2 f)) (aOwn 2 a)) := by
      have : R = fC (withHead f (fOwn 2 f)) (aOwn 2 a) := by rw [unhide HR, unhide HK]
      exact this
    go_upto_region 6 with fail
    clear hc0 hkk
    refine wp_region_lit ?_
    refine wpList_plain rfl fun Kt hKt => ?_
    go_simp
    refine hKt _ _ ?_
    clear hKt Kt
    try simp only [List.getElem_toArray, List.getElem_cons_zero, List.getElem_cons_succ, Act.put, List.setIfInBounds_toArray, List.set_cons_zero, List.set_cons_succ]
    refine wpList_vload rfl 28 (.tmp 20) rfl w.heap.size 7 rfl _ Tryz.underlying28 rfl (xC f.xg f.venue) infoFx (unhide HV).fx ?_
    try simp only [List.getElem_toArray, List.getElem_cons_zero, List.getElem_cons_succ, Act.put, List.setIfInBounds_toArray, List.set_cons_zero, List.set_cons_succ]
    refine wpList_plain rfl fun Kt hKt => ?_
    go_simp
    refine hKt _ _ ?_
    clear hKt Kt
    try simp only [List.getElem_toArray, List.getElem_cons_zero, List.getElem_cons_succ, Act.put, List.setIfInBounds_toArray, List.set_cons_zero, List.set_cons_succ]
    refine wpList_vput rfl 28 (.tmp 22) (.tmp 21) rfl (w.heap.size + 2) 7 rfl (xC f.xg f.venue) rfl infoFx (one_of f a (fun v hv => by rw [fC_eq]; simp only [List.mem_append]; simp [hv])) _ (fC (hdF f) a0) (unhide HW5) (by rw [fC_length _ _ rfl]; show 7 + 5 ≤ 82; omega) ?_
    intro W6 HW6 HG6
    have HO := hide (show VsAt W6 (w.heap.size + 2) 45 (fC (withHead f (fOwn 2 f)) (aOwn 2 a)) from (show spliceV (fC (hdF f) a0) (xC f.xg f.venue) 7 = fC (withHead f (fOwn 2 f)) (aOwn 2 a) from rfl) ▸ unhide HW6)
    have HP := hide ((unhide HP).grown (unhide HG6) (fun e => by injection e with e; omega))
    have HB := hide ((unhide HB).grown (unhide HG6) (unhide HB).size (fun i e => by injection e with e; omega))
    clear HW6 HG6 HW5
    refine wpList_nil ?_
    go_upto_region 19 with fail
    try clear hc0
    refine wp_region_lit ?_
    refine wpList_vload rfl 45 (.tmp 3) rfl (w.heap.size + 2) 0 rfl _ Tryz.underlying45 rfl (fC (withHead f (fOwn 2 f)) (aOwn 2 a)) (by rw [fC_length _ _ rfl]; exact infoFc) (unhide HO).range ?_
    try simp only [List.getElem_toArray, List.getElem_cons_zero, List.getElem_cons_succ, Act.put, List.setIfInBounds_toArray, List.set_cons_zero, List.set_cons_succ]
    refine wpList_vput rfl 45 (.tmp 2) (.tmp 53) rfl (w.heap.size + 1) 0 rfl (fC (withHead f (fOwn 2 f)) (aOwn 2 a)) rfl (by rw [fC_length _ _ rfl]; exact infoFc) (fC_one _ _) _ (fC f0 a0) (unhide HP) (by rw [fC_length _ _ rfl]; rw [fC_length f0 a0 rfl]; omega) ?_
    intro W9 HW9 HG
    rw [spliceV_all _ _ (by rw [fC_length _ _ rfl]; rw [fC_length f0 a0 rfl])] at HW9
    go_wp2_with fail
    try simp only [Exit.inBlock, Exit.then]
    exact vret rfl rfl (w.heap.size + 1) rfl _ _ (unhide HW9) _ Tryz.underlying45 rfl (by rw [fC_length _ _ rfl]; exact infoFc) ⟨by rw [unhide HRK], (unhide HB).grown (unhide HG) (unhide HB).size (fun i e => by injection e with e; omega)⟩
  have hn2 : (f.kind == 2) = false := by rw [beq_eq_false_iff_ne]; exact hk
  have HN2 := hide hk
  clear hk
  by_cases hk : f.kind = 3
  · have hkk : (f.kind == 3) = true := by rw [beq_iff_eq]; exact hk
    have HK := hide hk
    clear hk
    have HRK : Hid (R = fC (withHead f (fOwn 3 f)) (aOwn 3 a)) := by
      have : R = fC (withHead f (fOwn 3 f)) (aOwn 3 a) := by rw [unhide HR, unhide HK]
      exact this
    go_upto_region 8 with fail
    clear hc0 hkk
    refine wp_region_lit ?_
    refine wpList_plain rfl fun Kt hKt => ?_
    go_simp
    refine hKt _ _ ?_
    clear hKt Kt
    try simp only [List.getElem_toArray, List.getElem_cons_zero, List.getElem_cons_succ, Act.put, List.setIfInBounds_toArray, List.set_cons_zero, List.set_cons_succ]
    refine wpList_vload rfl 31 (.tmp 25) rfl w.heap.size 12 rfl _ Tryz.underlying31 rfl (sC f.sh a) infoSh (unhide HV).fs ?_
    try simp only [List.getElem_toArray, List.getElem_cons_zero, List.getElem_cons_succ, Act.put, List.setIfInBounds_toArray, List.set_cons_zero, List.set_cons_succ]
    refine wpList_plain rfl fun Kt hKt => ?_
    go_simp
    refine hKt _ _ ?_
    clear hKt Kt
    try simp only [List.getElem_toArray, List.getElem_cons_zero, List.getElem_cons_succ, Act.put, List.setIfInBounds_toArray, List.set_cons_zero, List.set_cons_succ]
    refine wpList_vput rfl 31 (.tmp 27) (.tmp 26) rfl (w.heap.size + 2) 12 rfl (sC f.sh a) rfl infoSh (one_of f a (fun v hv => by rw [fC_eq]; simp only [List.mem_append]; simp [hv])) _ (fC (hdF f) a0) (unhide HW5) (by rw [fC_length _ _ rfl]; show 12 + 13 ≤ 82; omega) ?_
    intro W6 HW6 HG6
    have HO := hide (show VsAt W6 (w.heap.size + 2) 45 (fC (withHead f (fOwn 3 f)) (aOwn 3 a)) from (show spliceV (fC (hdF f) a0) (sC f.sh a) 12 = fC (withHead f (fOwn 3 f)) (aOwn 3 a) from rfl) ▸ unhide HW6)
    have HP := hide ((unhide HP).grown (unhide HG6) (fun e => by injection e with e; omega))
    have HB := hide ((unhide HB).grown (unhide HG6) (unhide HB).size (fun i e => by injection e with e; omega))
    clear HW6 HG6 HW5
    refine wpList_nil ?_
    go_upto_region 19 with fail
    try clear hc0
    refine wp_region_lit ?_
    refine wpList_vload rfl 45 (.tmp 3) rfl (w.heap.size + 2) 0 rfl _ Tryz.underlying45 rfl (fC (withHead f (fOwn 3 f)) (aOwn 3 a)) (by rw [fC_length _ _ rfl]; exact infoFc) (unhide HO).range ?_
    try simp only [List.getElem_toArray, List.getElem_cons_zero, List.getElem_cons_succ, Act.put, List.setIfInBounds_toArray, List.set_cons_zero, List.set_cons_succ]
    refine wpList_vput rfl 45 (.tmp 2) (.tmp 53) rfl (w.heap.size + 1) 0 rfl (fC (withHead f (fOwn 3 f)) (aOwn 3 a)) rfl (by rw [fC_length _ _ rfl]; exact infoFc) (fC_one _ _) _ (fC f0 a0) (unhide HP) (by rw [fC_length _ _ rfl]; rw [fC_length f0 a0 rfl]; omega) ?_
    intro W9 HW9 HG
    rw [spliceV_all _ _ (by rw [fC_length _ _ rfl]; rw [fC_length f0 a0 rfl])] at HW9
    go_wp2_with fail
    try simp only [Exit.inBlock, Exit.then]
    exact vret rfl rfl (w.heap.size + 1) rfl _ _ (unhide HW9) _ Tryz.underlying45 rfl (by rw [fC_length _ _ rfl]; exact infoFc) ⟨by rw [unhide HRK], (unhide HB).grown (unhide HG) (unhide HB).size (fun i e => by injection e with e; omega)⟩
  have hn3 : (f.kind == 3) = false := by rw [beq_eq_false_iff_ne]; exact hk
  have HN3 := hide hk
  clear hk
  by_cases hk : f.kind = 4
  · have hkk : (f.kind == 4) = true := by rw [beq_iff_eq]; exact hk
    have HK := hide hk
    clear hk
    have HRK : Hid (R = fC (withHead f (fOwn 4 f)) (aOwn 4 a)) := by
      have : R = fC (withHead f (fOwn 4 f)) (aOwn 4 a) := by rw [unhide HR, unhide HK]
      exact this
    go_upto_region 10 with fail
    clear hc0 hkk
    refine wp_region_lit ?_
    refine wpList_plain rfl fun Kt hKt => ?_
    go_simp
    refine hKt _ _ ?_
    clear hKt Kt
    try simp only [List.getElem_toArray, List.getElem_cons_zero, List.getElem_cons_succ, Act.put, List.setIfInBounds_toArray, List.set_cons_zero, List.set_cons_succ]
    refine wpList_vload rfl 35 (.tmp 30) rfl w.heap.size 25 rfl _ Tryz.underlying35 rfl (rC f.r) infoRu (unhide HV).fr ?_
    try simp only [List.getElem_toArray, List.getElem_cons_zero, List.getElem_cons_succ, Act.put, List.setIfInBounds_toArray, List.set_cons_zero, List.set_cons_succ]
    refine wpList_plain rfl fun Kt hKt => ?_
    go_simp
    refine hKt _ _ ?_
    clear hKt Kt
    try simp only [List.getElem_toArray, List.getElem_cons_zero, List.getElem_cons_succ, Act.put, List.setIfInBounds_toArray, List.set_cons_zero, List.set_cons_succ]
    refine wpList_vput rfl 35 (.tmp 32) (.tmp 31) rfl (w.heap.size + 2) 25 rfl (rC f.r) rfl infoRu (one_of f a (fun v hv => by rw [fC_eq]; simp only [List.mem_append]; simp [hv])) _ (fC (hdF f) a0) (unhide HW5) (by rw [fC_length _ _ rfl]; show 25 + 17 ≤ 82; omega) ?_
    intro W6 HW6 HG6
    have HO := hide (show VsAt W6 (w.heap.size + 2) 45 (fC (withHead f (fOwn 4 f)) (aOwn 4 a)) from (show spliceV (fC (hdF f) a0) (rC f.r) 25 = fC (withHead f (fOwn 4 f)) (aOwn 4 a) from rfl) ▸ unhide HW6)
    have HP := hide ((unhide HP).grown (unhide HG6) (fun e => by injection e with e; omega))
    have HB := hide ((unhide HB).grown (unhide HG6) (unhide HB).size (fun i e => by injection e with e; omega))
    clear HW6 HG6 HW5
    refine wpList_nil ?_
    go_upto_region 19 with fail
    try clear hc0
    refine wp_region_lit ?_
    refine wpList_vload rfl 45 (.tmp 3) rfl (w.heap.size + 2) 0 rfl _ Tryz.underlying45 rfl (fC (withHead f (fOwn 4 f)) (aOwn 4 a)) (by rw [fC_length _ _ rfl]; exact infoFc) (unhide HO).range ?_
    try simp only [List.getElem_toArray, List.getElem_cons_zero, List.getElem_cons_succ, Act.put, List.setIfInBounds_toArray, List.set_cons_zero, List.set_cons_succ]
    refine wpList_vput rfl 45 (.tmp 2) (.tmp 53) rfl (w.heap.size + 1) 0 rfl (fC (withHead f (fOwn 4 f)) (aOwn 4 a)) rfl (by rw [fC_length _ _ rfl]; exact infoFc) (fC_one _ _) _ (fC f0 a0) (unhide HP) (by rw [fC_length _ _ rfl]; rw [fC_length f0 a0 rfl]; omega) ?_
    intro W9 HW9 HG
    rw [spliceV_all _ _ (by rw [fC_length _ _ rfl]; rw [fC_length f0 a0 rfl])] at HW9
    go_wp2_with fail
    try simp only [Exit.inBlock, Exit.then]
    exact vret rfl rfl (w.heap.size + 1) rfl _ _ (unhide HW9) _ Tryz.underlying45 rfl (by rw [fC_length _ _ rfl]; exact infoFc) ⟨by rw [unhide HRK], (unhide HB).grown (unhide HG) (unhide HB).size (fun i e => by injection e with e; omega)⟩
  have hn4 : (f.kind == 4) = false := by rw [beq_eq_false_iff_ne]; exact hk
  have HN4 := hide hk
  clear hk
  by_cases hk : f.kind = 5
  · have hkk : (f.kind == 5) = true := by rw [beq_iff_eq]; exact hk
    have HK := hide hk
    clear hk
    have HRK : Hid (R = fC (withHead f (fOwn 5 f)) (aOwn 5 a)) := by
      have : R = fC (withHead f (fOwn 5 f)) (aOwn 5 a) := by rw [unhide HR, unhide HK]
      exact this
    go_upto_region 12 with fail
    clear hc0 hkk
    refine wp_region_lit ?_
    refine wpList_plain rfl fun Kt hKt => ?_
    go_simp
    refine hKt _ _ ?_
    clear hKt Kt
    try simp only [List.getElem_toArray, List.getElem_cons_zero, List.getElem_cons_succ, Act.put, List.setIfInBounds_toArray, List.set_cons_zero, List.set_cons_succ]
    refine wpList_vload rfl 37 (.tmp 35) rfl w.heap.size 42 rfl _ Tryz.underlying37 rfl (pC f) infoAp (unhide HV).fp ?_
    try simp only [List.getElem_toArray, List.getElem_cons_zero, List.getElem_cons_succ, Act.put, List.setIfInBounds_toArray, List.set_cons_zero, List.set_cons_succ]
    refine wpList_plain rfl fun Kt hKt => ?_
    go_simp
    refine hKt _ _ ?_
    clear hKt Kt
    try simp only [List.getElem_toArray, List.getElem_cons_zero, List.getElem_cons_succ, Act.put, List.setIfInBounds_toArray, List.set_cons_zero, List.set_cons_succ]
    refine wpList_vput rfl 37 (.tmp 37) (.tmp 36) rfl (w.heap.size + 2) 42 rfl (pC f) rfl infoAp (one_of f a (fun v hv => by rw [fC_eq]; simp only [List.mem_append]; simp [hv])) _ (fC (hdF f) a0) (unhide HW5) (by rw [fC_length _ _ rfl]; show 42 + 3 ≤ 82; omega) ?_
    intro W6 HW6 HG6
    have HO := hide (show VsAt W6 (w.heap.size + 2) 45 (fC (withHead f (fOwn 5 f)) (aOwn 5 a)) from (show spliceV (fC (hdF f) a0) (pC f) 42 = fC (withHead f (fOwn 5 f)) (aOwn 5 a) from rfl) ▸ unhide HW6)
    have HP := hide ((unhide HP).grown (unhide HG6) (fun e => by injection e with e; omega))
    have HB := hide ((unhide HB).grown (unhide HG6) (unhide HB).size (fun i e => by injection e with e; omega))
    clear HW6 HG6 HW5
    refine wpList_nil ?_
    go_upto_region 19 with fail
    try clear hc0
    refine wp_region_lit ?_
    refine wpList_vload rfl 45 (.tmp 3) rfl (w.heap.size + 2) 0 rfl _ Tryz.underlying45 rfl (fC (withHead f (fOwn 5 f)) (aOwn 5 a)) (by rw [fC_length _ _ rfl]; exact infoFc) (unhide HO).range ?_
    try simp only [List.getElem_toArray, List.getElem_cons_zero, List.getElem_cons_succ, Act.put, List.setIfInBounds_toArray, List.set_cons_zero, List.set_cons_succ]
    refine wpList_vput rfl 45 (.tmp 2) (.tmp 53) rfl (w.heap.size + 1) 0 rfl (fC (withHead f (fOwn 5 f)) (aOwn 5 a)) rfl (by rw [fC_length _ _ rfl]; exact infoFc) (fC_one _ _) _ (fC f0 a0) (unhide HP) (by rw [fC_length _ _ rfl]; rw [fC_length f0 a0 rfl]; omega) ?_
    intro W9 HW9 HG
    rw [spliceV_all _ _ (by rw [fC_length _ _ rfl]; rw [fC_length f0 a0 rfl])] at HW9
    go_wp2_with fail
    try simp only [Exit.inBlock, Exit.then]
    exact vret rfl rfl (w.heap.size + 1) rfl _ _ (unhide HW9) _ Tryz.underlying45 rfl (by rw [fC_length _ _ rfl]; exact infoFc) ⟨by rw [unhide HRK], (unhide HB).grown (unhide HG) (unhide HB).size (fun i e => by injection e with e; omega)⟩
  have hn5 : (f.kind == 5) = false := by rw [beq_eq_false_iff_ne]; exact hk
  have HN5 := hide hk
  clear hk
  by_cases hk : f.kind = 6
  · have hkk : (f.kind == 6) = true := by rw [beq_iff_eq]; exact hk
    have HK := hide hk
    clear hk
    have HRK : Hid (R = fC (withHead f (fOwn 6 f)) (aOwn 6 a)) := by
      have : R = fC (withHead f (fOwn 6 f)) (aOwn 6 a) := by rw [unhide HR, unhide HK]
      exact this
    go_upto_region 14 with fail
    clear hc0 hkk
    refine wp_region_lit ?_
    refine wpList_plain rfl fun Kt hKt => ?_
    go_simp
    refine hKt _ _ ?_
    clear hKt Kt
    try simp only [List.getElem_toArray, List.getElem_cons_zero, List.getElem_cons_succ, Act.put, List.setIfInBounds_toArray, List.set_cons_zero, List.set_cons_succ]
    refine wpList_vload rfl 39 (.tmp 40) rfl w.heap.size 45 rfl _ Tryz.underlying39 rfl (mC f) infoMv (unhide HV).fm ?_
    try simp only [List.getElem_toArray, List.getElem_cons_zero, List.getElem_cons_succ, Act.put, List.setIfInBounds_toArray, List.set_cons_zero, List.set_cons_succ]
    refine wpList_plain rfl fun Kt hKt => ?_
    go_simp
    refine hKt _ _ ?_
    clear hKt Kt
    try simp only [List.getElem_toArray, List.getElem_cons_zero, List.getElem_cons_succ, Act.put, List.setIfInBounds_toArray, List.set_cons_zero, List.set_cons_succ]
    refine wpList_vput rfl 39 (.tmp 42) (.tmp 41) rfl (w.heap.size + 2) 45 rfl (mC f) rfl infoMv (one_of f a (fun v hv => by rw [fC_eq]; simp only [List.mem_append]; simp [hv])) _ (fC (hdF f) a0) (unhide HW5) (by rw [fC_length _ _ rfl]; show 45 + 2 ≤ 82; omega) ?_
    intro W6 HW6 HG6
    have HO := hide (show VsAt W6 (w.heap.size + 2) 45 (fC (withHead f (fOwn 6 f)) (aOwn 6 a)) from (show spliceV (fC (hdF f) a0) (mC f) 45 = fC (withHead f (fOwn 6 f)) (aOwn 6 a) from rfl) ▸ unhide HW6)
    have HP := hide ((unhide HP).grown (unhide HG6) (fun e => by injection e with e; omega))
    have HB := hide ((unhide HB).grown (unhide HG6) (unhide HB).size (fun i e => by injection e with e; omega))
    clear HW6 HG6 HW5
    refine wpList_nil ?_
    go_upto_region 19 with fail
    try clear hc0
    refine wp_region_lit ?_
    refine wpList_vload rfl 45 (.tmp 3) rfl (w.heap.size + 2) 0 rfl _ Tryz.underlying45 rfl (fC (withHead f (fOwn 6 f)) (aOwn 6 a)) (by rw [fC_length _ _ rfl]; exact infoFc) (unhide HO).range ?_
    try simp only [List.getElem_toArray, List.getElem_cons_zero, List.getElem_cons_succ, Act.put, List.setIfInBounds_toArray, List.set_cons_zero, List.set_cons_succ]
    refine wpList_vput rfl 45 (.tmp 2) (.tmp 53) rfl (w.heap.size + 1) 0 rfl (fC (withHead f (fOwn 6 f)) (aOwn 6 a)) rfl (by rw [fC_length _ _ rfl]; exact infoFc) (fC_one _ _) _ (fC f0 a0) (unhide HP) (by rw [fC_length _ _ rfl]; rw [fC_length f0 a0 rfl]; omega) ?_
    intro W9 HW9 HG
    rw [spliceV_all _ _ (by rw [fC_length _ _ rfl]; rw [fC_length f0 a0 rfl])] at HW9
    go_wp2_with fail
    try simp only [Exit.inBlock, Exit.then]
    exact vret rfl rfl (w.heap.size + 1) rfl _ _ (unhide HW9) _ Tryz.underlying45 rfl (by rw [fC_length _ _ rfl]; exact infoFc) ⟨by rw [unhide HRK], (unhide HB).grown (unhide HG) (unhide HB).size (fun i e => by injection e with e; omega)⟩
  have hn6 : (f.kind == 6) = false := by rw [beq_eq_false_iff_ne]; exact hk
  have HN6 := hide hk
  clear hk
  by_cases hk : f.kind = 7
  · have hkk : (f.kind == 7) = true := by rw [beq_iff_eq]; exact hk
    have HK := hide hk
    clear hk
    have HRK : Hid (R = fC (withHead f (fOwn 7 f)) (aOwn 7 a)) := by
      have : R = fC (withHead f (fOwn 7 f)) (aOwn 7 a) := by rw [unhide HR, unhide HK]
      exact this
    go_upto_region 16 with fail
    clear hc0 hkk
    refine wp_region_lit ?_
    refine wpList_plain rfl fun Kt hKt => ?_
    go_simp
    refine hKt _ _ ?_
    clear hKt Kt
    try simp only [List.getElem_toArray, List.getElem_cons_zero, List.getElem_cons_succ, Act.put, List.setIfInBounds_toArray, List.set_cons_zero, List.set_cons_succ]
    refine wpList_vload rfl 41 (.tmp 45) rfl w.heap.size 47 rfl _ Tryz.underlying41 rfl (lC f.ls f.lc f.order a.od a.nod) infoLt (unhide HV).fl ?_
    try simp only [List.getElem_toArray, List.getElem_cons_zero, List.getElem_cons_succ, Act.put, List.setIfInBounds_toArray, List.set_cons_zero, List.set_cons_succ]
    refine wpList_plain rfl fun Kt hKt => ?_
    go_simp
    refine hKt _ _ ?_
    clear hKt Kt
    try simp only [List.getElem_toArray, List.getElem_cons_zero, List.getElem_cons_succ, Act.put, List.setIfInBounds_toArray, List.set_cons_zero, List.set_cons_succ]
    refine wpList_vput rfl 41 (.tmp 47) (.tmp 46) rfl (w.heap.size + 2) 47 rfl (lC f.ls f.lc f.order a.od a.nod) rfl infoLt (one_of f a (fun v hv => by rw [fC_eq]; simp only [List.mem_append]; simp [hv])) _ (fC (hdF f) a0) (unhide HW5) (by rw [fC_length _ _ rfl]; show 47 + 3 ≤ 82; omega) ?_
    intro W6 HW6 HG6
    have HO := hide (show VsAt W6 (w.heap.size + 2) 45 (fC (withHead f (fOwn 7 f)) (aOwn 7 a)) from (show spliceV (fC (hdF f) a0) (lC f.ls f.lc f.order a.od a.nod) 47 = fC (withHead f (fOwn 7 f)) (aOwn 7 a) from rfl) ▸ unhide HW6)
    have HP := hide ((unhide HP).grown (unhide HG6) (fun e => by injection e with e; omega))
    have HB := hide ((unhide HB).grown (unhide HG6) (unhide HB).size (fun i e => by injection e with e; omega))
    clear HW6 HG6 HW5
    refine wpList_nil ?_
    go_upto_region 19 with fail
    try clear hc0
    refine wp_region_lit ?_
    refine wpList_vload rfl 45 (.tmp 3) rfl (w.heap.size + 2) 0 rfl _ Tryz.underlying45 rfl (fC (withHead f (fOwn 7 f)) (aOwn 7 a)) (by rw [fC_length _ _ rfl]; exact infoFc) (unhide HO).range ?_
    try simp only [List.getElem_toArray, List.getElem_cons_zero, List.getElem_cons_succ, Act.put, List.setIfInBounds_toArray, List.set_cons_zero, List.set_cons_succ]
    refine wpList_vput rfl 45 (.tmp 2) (.tmp 53) rfl (w.heap.size + 1) 0 rfl (fC (withHead f (fOwn 7 f)) (aOwn 7 a)) rfl (by rw [fC_length _ _ rfl]; exact infoFc) (fC_one _ _) _ (fC f0 a0) (unhide HP) (by rw [fC_length _ _ rfl]; rw [fC_length f0 a0 rfl]; omega) ?_
    intro W9 HW9 HG
    rw [spliceV_all _ _ (by rw [fC_length _ _ rfl]; rw [fC_length f0 a0 rfl])] at HW9
    go_wp2_with fail
    try simp only [Exit.inBlock, Exit.then]
    exact vret rfl rfl (w.heap.size + 1) rfl _ _ (unhide HW9) _ Tryz.underlying45 rfl (by rw [fC_length _ _ rfl]; exact infoFc) ⟨by rw [unhide HRK], (unhide HB).grown (unhide HG) (unhide HB).size (fun i e => by injection e with e; omega)⟩
  have hn7 : (f.kind == 7) = false := by rw [beq_eq_false_iff_ne]; exact hk
  have HN7 := hide hk
  clear hk
  by_cases hk : f.kind = 8
  · have hkk : (f.kind == 8) = true := by rw [beq_iff_eq]; exact hk
    have HK := hide hk
    clear hk
    have HRK : Hid (R = fC (withHead f (fOwn 8 f)) (aOwn 8 a)) := by
      have : R = fC (withHead f (fOwn 8 f)) (aOwn 8 a) := by rw [unhide HR, unhide HK]
      exact this
    go_upto_region 18 with fail
    clear hc0 hkk
    refine wp_region_lit ?_
    refine wpList_plain rfl fun Kt hKt => ?_
    go_simp
    refine hKt _ _ ?_
    clear hKt Kt
    try simp only [List.getElem_toArray, List.getElem_cons_zero, List.getElem_cons_succ, Act.put, List.setIfInBounds_toArray, List.set_cons_zero, List.set_cons_succ]
    refine wpList_vload rfl 43 (.tmp 50) rfl w.heap.size 50 rfl _ Tryz.underlying43 rfl (vC f) (by unfold vC; rw [List.length_map, unhide H32]; exact infoDg) (unhide HV).fv ?_
    try simp only [List.getElem_toArray, List.getElem_cons_zero, List.getElem_cons_succ, Act.put, List.setIfInBounds_toArray, List.set_cons_zero, List.set_cons_succ]
    refine wpList_plain rfl fun Kt hKt => ?_
    go_simp
    refine hKt _ _ ?_
    clear hKt Kt
    try simp only [List.getElem_toArray, List.getElem_cons_zero, List.getElem_cons_succ, Act.put, List.setIfInBounds_toArray, List.set_cons_zero, List.set_cons_succ]
    refine wpList_vput rfl 43 (.tmp 52) (.tmp 51) rfl (w.heap.size + 2) 50 rfl (vC f) rfl (by unfold vC; rw [List.length_map, unhide H32]; exact infoDg) (one_of f a (fun v hv => by rw [fC_eq]; simp only [List.mem_append]; simp [hv])) _ (fC (hdF f) a0) (unhide HW5) (by rw [fC_length _ _ rfl]; show 50 + (vC f).length ≤ 82; unfold vC; rw [List.length_map, unhide H32]; omega) ?_
    intro W6 HW6 HG6
    have HO := hide (show VsAt W6 (w.heap.size + 2) 45 (fC (withHead f (fOwn 8 f)) (aOwn 8 a)) from (show spliceV (fC (hdF f) a0) (vC f) 50 = fC (withHead f (fOwn 8 f)) (aOwn 8 a) from own8 f a (unhide H32)) ▸ unhide HW6)
    have HP := hide ((unhide HP).grown (unhide HG6) (fun e => by injection e with e; omega))
    have HB := hide ((unhide HB).grown (unhide HG6) (unhide HB).size (fun i e => by injection e with e; omega))
    clear HW6 HG6 HW5
    refine wpList_nil ?_
    go_upto_region 19 with fail
    try clear hc0
    refine wp_region_lit ?_
    refine wpList_vload rfl 45 (.tmp 3) rfl (w.heap.size + 2) 0 rfl _ Tryz.underlying45 rfl (fC (withHead f (fOwn 8 f)) (aOwn 8 a)) (by rw [fC_length _ _ (show (withHead f (fOwn 8 f)).void.length = 32 from unhide H32)]; exact infoFc) (unhide HO).range ?_
    try simp only [List.getElem_toArray, List.getElem_cons_zero, List.getElem_cons_succ, Act.put, List.setIfInBounds_toArray, List.set_cons_zero, List.set_cons_succ]
    refine wpList_vput rfl 45 (.tmp 2) (.tmp 53) rfl (w.heap.size + 1) 0 rfl (fC (withHead f (fOwn 8 f)) (aOwn 8 a)) rfl (by rw [fC_length _ _ (show (withHead f (fOwn 8 f)).void.length = 32 from unhide H32)]; exact infoFc) (fC_one _ _) _ (fC f0 a0) (unhide HP) (by rw [fC_length _ _ (show (withHead f (fOwn 8 f)).void.length = 32 from unhide H32)]; rw [fC_length f0 a0 rfl]; omega) ?_
    intro W9 HW9 HG
    rw [spliceV_all _ _ (by rw [fC_length _ _ (show (withHead f (fOwn 8 f)).void.length = 32 from unhide H32)]; rw [fC_length f0 a0 rfl])] at HW9
    go_wp2_with fail
    try simp only [Exit.inBlock, Exit.then]
    exact vret rfl rfl (w.heap.size + 1) rfl _ _ (unhide HW9) _ Tryz.underlying45 rfl (by rw [fC_length _ _ (show (withHead f (fOwn 8 f)).void.length = 32 from unhide H32)]; exact infoFc) ⟨by rw [unhide HRK], (unhide HB).grown (unhide HG) (unhide HB).size (fun i e => by injection e with e; omega)⟩
  have hn8 : (f.kind == 8) = false := by rw [beq_eq_false_iff_ne]; exact hk
  have HN8 := hide hk
  clear hk
  have HRK : Hid (R = fC (hdF f) a0) := by
    have : R = fC (hdF f) a0 := by
      have h1 := unhide HN1; have h2 := unhide HN2; have h3 := unhide HN3; have h4 := unhide HN4; have h5 := unhide HN5; have h6 := unhide HN6; have h7 := unhide HN7; have h8 := unhide HN8
      rw [unhide HR, own_no f a h1 h2 h3 h4 h5 h6 h7 h8]
      rfl
    exact this
  have HO := HW5
  go_upto_region 19 with fail
  try clear hc0
  refine wp_region_lit ?_
  refine wpList_vload rfl 45 (.tmp 3) rfl (w.heap.size + 2) 0 rfl _ Tryz.underlying45 rfl (fC (hdF f) a0) (by rw [fC_length _ _ rfl]; exact infoFc) (unhide HO).range ?_
  try simp only [List.getElem_toArray, List.getElem_cons_zero, List.getElem_cons_succ, Act.put, List.setIfInBounds_toArray, List.set_cons_zero, List.set_cons_succ]
  refine wpList_vput rfl 45 (.tmp 2) (.tmp 53) rfl (w.heap.size + 1) 0 rfl (fC (hdF f) a0) rfl (by rw [fC_length _ _ rfl]; exact infoFc) (fC_one _ _) _ (fC f0 a0) (unhide HP) (by rw [fC_length _ _ rfl]; rw [fC_length f0 a0 rfl]; omega) ?_
  intro W9 HW9 HG
  rw [spliceV_all _ _ (by rw [fC_length _ _ rfl]; rw [fC_length f0 a0 rfl])] at HW9
  go_wp2_with fail
  try simp only [Exit.inBlock, Exit.then]
  exact vret rfl rfl (w.heap.size + 1) rfl _ _ (unhide HW9) _ Tryz.underlying45 rfl (by rw [fC_length _ _ rfl]; exact infoFc) ⟨by rw [unhide HRK], (unhide HB).grown (unhide HG) (unhide HB).size (fun i e => by injection e with e; omega)⟩
end Go.Proofs.YtdmaopfaeigelaaGreatDoor
