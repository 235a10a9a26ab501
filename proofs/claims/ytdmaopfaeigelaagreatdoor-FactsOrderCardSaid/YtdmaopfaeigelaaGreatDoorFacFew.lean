/- Contracts over the program of facts: the reference's Small (short lists). Contracts over the program of facts: the reference's Few, the statements' few. The laws of facts: few, what a law returns, a row built, what is known of an argument. -/
import Derived.Test.YtdmaopfaeigelaaGreatDoorFacO
import Derived.Test.YtdmaopfaeigelaaGreatDoorFacSAD
import Derived.Great.BuildSlice
namespace Go.Proofs.YtdmaopfaeigelaaGreatDoor
set_option linter.unusedSimpArgs false
set_option linter.unusedVariables false
set_option maxRecDepth 100000
open Go.RowKit

def smallF (f : Fc) : Bool := decide ((f.e.clubs.length : Int) ≤ 60) && decide ((f.e.rules.size : Int) ≤ 100) && decide ((f.sh.hs.length : Int) ≤ 60) && decide ((f.sh.as_.length : Int) ≤ 60) && decide ((f.sh.hc.length : Int) ≤ 60) && decide ((f.sh.ac.length : Int) ≤ 60) && decide ((f.order.length : Int) ≤ 60)
set_option maxHeartbeats 4000000 in
theorem small_any (f : Fc) (a : Ad) (w : World) : Calls Tryz.prog 62 #[.agg (fC f a).toArray] w fun x w' => x = .returned (.bool (smallF f)) ∧ Below w.heap.size w w' := by
  obtain ⟨R, hR⟩ : ∃ R, R = smallF f := ⟨_, rfl⟩
  rw [← hR]
  unfold smallF at hR
  have e0 : (fC f a)[5]? = some (.slice a.cl f.e.clubs.length a.ncl) := rfl
  have e1 : (fC f a)[6]? = some (.string f.e.rules) := rfl
  have e2 : (fC f a)[21]? = some (.slice a.hs f.sh.hs.length a.nhs) := rfl
  have e3 : (fC f a)[22]? = some (.slice a.as_ f.sh.as_.length a.nas) := rfl
  have e4 : (fC f a)[23]? = some (.slice a.hc f.sh.hc.length a.nhc) := rfl
  have e5 : (fC f a)[24]? = some (.slice a.ac f.sh.ac.length a.nac) := rfl
  have e6 : (fC f a)[49]? = some (.slice a.od f.order.length a.nod) := rfl
  obtain ⟨cs, hcs⟩ : ∃ cs, cs = fC f a := ⟨_, rfl⟩
  rw [← hcs] at e0 e1 e2 e3 e4 e5 e6 ⊢
  generalize f.e.clubs.length = n0 at e0 hR
  generalize a.cl = A0 at e0
  generalize a.ncl = c0 at e0
  generalize f.e.rules = s1 at e1 hR
  generalize f.sh.hs.length = n2 at e2 hR
  generalize a.hs = A2 at e2
  generalize a.nhs = c2 at e2
  generalize f.sh.as_.length = n3 at e3 hR
  generalize a.as_ = A3 at e3
  generalize a.nas = c3 at e3
  generalize f.sh.hc.length = n4 at e4 hR
  generalize a.hc = A4 at e4
  generalize a.nhc = c4 at e4
  generalize f.sh.ac.length = n5 at e5 hR
  generalize a.ac = A5 at e5
  generalize a.nac = c5 at e5
  generalize f.order.length = n6 at e6 hR
  generalize a.od = A6 at e6
  generalize a.nod = c6 at e6
  obtain ⟨b0, hb0⟩ : ∃ b, decide ((n0 : Int) ≤ 60) = b := ⟨_, rfl⟩
  obtain ⟨b1, hb1⟩ : ∃ b, decide ((s1.size : Int) ≤ 100) = b := ⟨_, rfl⟩
  obtain ⟨b2, hb2⟩ : ∃ b, decide ((n2 : Int) ≤ 60) = b := ⟨_, rfl⟩
  obtain ⟨b3, hb3⟩ : ∃ b, decide ((n3 : Int) ≤ 60) = b := ⟨_, rfl⟩
  obtain ⟨b4, hb4⟩ : ∃ b, decide ((n4 : Int) ≤ 60) = b := ⟨_, rfl⟩
  obtain ⟨b5, hb5⟩ : ∃ b, decide ((n5 : Int) ≤ 60) = b := ⟨_, rfl⟩
  obtain ⟨b6, hb6⟩ : ∃ b, decide ((n6 : Int) ≤ 60) = b := ⟨_, rfl⟩
  rw [hb0, hb1, hb2, hb3, hb4, hb5, hb6] at hR
  have HR := hide hR; have HCS := hide hcs
  have HE0 := hide e0
  have HE1 := hide e1
  have HE2 := hide e2
  have HE3 := hide e3
  have HE4 := hide e4
  have HE5 := hide e5
  have HE6 := hide e6
  clear hR hcs e0 e1 e2 e3 e4 e5 e6
  go_enter Tryz.func62, Tryz.ntmps62
  go_upto_region 1 with fail
  generalize hX1 : w.alloc _ = W1
  have hB1 : Below w.heap.size w W1 := hX1 ▸ (Below.refl _ _).alloc (Nat.le_refl _) _
  have HV := hide (boxedV w W1 cs 45 (by rw [← hX1]; rfl))
  have HB := hide hB1
  clear hX1 hB1
  have hc0 : W1.cell? ⟨w.heap.size, 5, none⟩ = some (.slice A0 n0 c0) := (unhide HV).cell (unhide HE0)
  have hc1 : W1.cell? ⟨w.heap.size, 6, none⟩ = some (.string s1) := (unhide HV).cell (unhide HE1)
  have hc2 : W1.cell? ⟨w.heap.size, 21, none⟩ = some (.slice A2 n2 c2) := (unhide HV).cell (unhide HE2)
  have hc3 : W1.cell? ⟨w.heap.size, 22, none⟩ = some (.slice A3 n3 c3) := (unhide HV).cell (unhide HE3)
  have hc4 : W1.cell? ⟨w.heap.size, 23, none⟩ = some (.slice A4 n4 c4) := (unhide HV).cell (unhide HE4)
  have hc5 : W1.cell? ⟨w.heap.size, 24, none⟩ = some (.slice A5 n5 c5) := (unhide HV).cell (unhide HE5)
  have hc6 : W1.cell? ⟨w.heap.size, 49, none⟩ = some (.slice A6 n6 c6) := (unhide HV).cell (unhide HE6)
  cases b0
  case false =>
    go_wp2_with fail
    go_ret
    exact ⟨by rw [unhide HR]; rfl, unhide HB⟩
  cases b1
  case false =>
    go_wp2_with fail
    go_ret
    exact ⟨by rw [unhide HR]; rfl, unhide HB⟩
  cases b2
  case false =>
    go_wp2_with fail
    go_ret
    exact ⟨by rw [unhide HR]; rfl, unhide HB⟩
  cases b3
  case false =>
    go_wp2_with fail
    go_ret
    exact ⟨by rw [unhide HR]; rfl, unhide HB⟩
  cases b4
  case false =>
    go_wp2_with fail
    go_ret
    exact ⟨by rw [unhide HR]; rfl, unhide HB⟩
  cases b5
  case false =>
    go_wp2_with fail
    go_ret
    exact ⟨by rw [unhide HR]; rfl, unhide HB⟩
  cases b6
  case false =>
    go_wp2_with fail
    go_ret
    exact ⟨by rw [unhide HR]; rfl, unhide HB⟩
  go_wp2_with fail
  go_ret
  exact ⟨by rw [unhide HR]; rfl, unhide HB⟩
end Go.Proofs.YtdmaopfaeigelaaGreatDoor
namespace Go.Proofs.YtdmaopfaeigelaaGreatDoor
set_option linter.unusedSimpArgs false
set_option linter.unusedVariables false
set_option maxRecDepth 100000
open Go.RowKit

/-- a row of facts -/
def rowF (L : List (Fc × Ad)) : List Value := L.flatMap fun p => fC p.1 p.2
theorem rowF_at : ∀ (L : List (Fc × Ad)), (∀ p ∈ L, p.1.void.length = 32) → ∀ (k j : Nat) (p : Fc × Ad) (v : Value), L[k]? = some p → (fC p.1 p.2)[j]? = some v → (rowF L)[k * 82 + j]? = some v
  | [], _, k, j, p, v, h, _ => by simp at h
  | q :: L, hv, 0, j, p, v, h, hj => by
    simp at h
    subst h
    simp only [rowF, List.flatMap_cons, Nat.zero_mul, Nat.zero_add]
    have hl : j < (fC q.1 q.2).length := (List.getElem?_eq_some_iff.1 hj).1
    rw [List.getElem?_append_left hl]
    exact hj
  | q :: L, hv, k + 1, j, p, v, h, hj => by
    have ih := rowF_at L (fun p hp => hv p (List.mem_cons_of_mem _ hp)) k j p v (by simpa using h) hj
    have hl : (fC q.1 q.2).length = 82 := fC_length _ _ (hv q (List.mem_cons_self ..))
    simp only [rowF, List.flatMap_cons] at ih ⊢
    rw [List.getElem?_append_right (by omega), hl, ← ih]
    congr 1
    omega
theorem rowF_range {w : World} {b : Nat} {L : List (Fc × Ad)} (h : VsAt w b 45 (rowF L)) (hv : ∀ p ∈ L, p.1.void.length = 32) (k : Nat) (p : Fc × Ad) (hk : L[k]? = some p) : w.rangeAt b (k * 82) (fC p.1 p.2) :=
  h.mid (k * 82) _ fun j v hj => rowF_at L hv k j p v hk hj
set_option maxHeartbeats 2000000 in
theorem rfew_any (b c : Nat) (L : List (Fc × Ad)) (m : Int) (w : World) (h : VsAt w b 45 (rowF L)) (hv : ∀ p ∈ L, p.1.void.length = 32) (hl : L.length ≤ 1000) (hc : L.length ≤ c) :
    Calls Tryz.prog 32 #[.slice (some ⟨b, 0, none⟩) L.length c, .int .i64 m] w fun e w' => e = .returned (.bool (L.all (fun p => smallF p.1) && decide ((L.length : Int) ≤ m))) ∧ Below w.heap.size w w' := by
  obtain ⟨n, hn⟩ : ∃ n, n = L.length := ⟨_, rfl⟩
  obtain ⟨R, hR⟩ : ∃ R, R = (L.all (fun p => smallF p.1) && decide ((n : Int) ≤ m)) := ⟨_, rfl⟩
  rw [← hn] at hl hc ⊢
  rw [← hR]
  have HN := hide hn; have HR := hide hR; have HV := hide hv; have HH := hide h
  clear hn hR hv h
  go_enter Tryz.func32, Tryz.ntmps32
  go_wp2_with fail
  go_loopg [5] n (fun g y5 wx => ∃ k : Nat, y5 = .int .i64 (k : Int) ∧ g + k = n ∧ (L.take k).all (fun p => smallF p.1) = true ∧ Below w.heap.size w wx)
  case atStart => exact ⟨0, rfl, by omega, rfl, Below.refl _ _⟩
  case round =>
    obtain ⟨k, rfl, hk, hall, hbw⟩ := hrel
    have HALL := hide hall
    have HB := hide hbw
    by_cases hkn : k < n
    · obtain ⟨g, rfl⟩ : ∃ g, gk = g + 1 := ⟨gk - 1, by omega⟩
      have i1 : (k : Int) < (n : Int) := by omega
      have i0 : (0 : Int) ≤ (k : Int) := Int.natCast_nonneg _
      have wk : IntKind.i64.wrap ((k : Int) + 1) = ((k + 1 : Nat) : Int) := (IntWalk.i64_in _ (by omega)).trans (by omega)
      obtain ⟨p, hp⟩ : ∃ p, L[k]? = some p := ⟨_, List.getElem?_eq_getElem (by have := unhide HN; omega)⟩
      have hrg := rowF_range ((unhide HH).keep hbw) (unhide HV) k p hp
      have HRG := hide hrg
      have HX : Hid (L[k]? = some p ∧ k < n ∧ g + 1 + k = n) := ⟨hp, hkn, hk⟩
      have HVP := hide ((unhide HV) p (List.mem_of_getElem? hp))
      have hsm := small_any p.1 p.2 wr
      obtain ⟨cs, hcs⟩ : ∃ cs, cs = fC p.1 p.2 := ⟨_, rfl⟩
      obtain ⟨z, hz⟩ : ∃ z, z = smallF p.1 := ⟨_, rfl⟩
      rw [← hcs, ← hz] at hsm
      have HRG2 : Hid (wr.rangeAt b (k * 82) cs) := by rw [hcs]; exact HRG
      have HLN : Hid (cs.length = 82) := by
        have : cs.length = 82 := by rw [hcs]; exact fC_length _ _ (unhide HVP)
        exact this
      have HSM := hide hsm; have HZ := hide hz
      clear hrg hp hkn hk hall hbw hsm hz hcs HRG HVP
      go_upto_region 4 with fail
      refine wp_region_lit ?_
      refine wpList_plain rfl fun Kt hKt => ?_
      go_simp
      refine hKt _ _ ?_
      clear hKt Kt
      try simp only [List.getElem_toArray, List.getElem_cons_zero, List.getElem_cons_succ, Act.put, List.setIfInBounds_toArray, List.set_cons_zero, List.set_cons_succ]
      refine wpList_plain rfl fun Kt hKt => ?_
      go_simp
      refine hKt _ _ ?_
      clear hKt Kt
      try simp only [List.getElem_toArray, List.getElem_cons_zero, List.getElem_cons_succ, Act.put, List.setIfInBounds_toArray, List.set_cons_zero, List.set_cons_succ]
      refine wpList_plain rfl fun Kt hKt => ?_
      go_simp
      refine hKt _ _ ?_
      clear hKt Kt
      try simp only [List.getElem_toArray, List.getElem_cons_zero, List.getElem_cons_succ, Act.put, List.setIfInBounds_toArray, List.set_cons_zero, List.set_cons_succ]
      refine wpList_vload rfl 45 (.tmp 14) rfl b (k * 82) rfl _ Tryz.underlying45 rfl cs (by rw [unhide HLN]; exact infoFc) (unhide HRG2) ?_
      try simp only [List.getElem_toArray, List.getElem_cons_zero, List.getElem_cons_succ, Act.put, List.setIfInBounds_toArray, List.set_cons_zero, List.set_cons_succ]
      refine wpList_wanted (by kernel_rfl) fun Kt hKt => ?_
      go_simp
      refine (unhide HSM).mono ?_; rintro x W2 ⟨rfl, hG⟩
      dsimp only
      refine hKt _ _ ?_
      clear hKt Kt
      try simp only [List.getElem_toArray, List.getElem_cons_zero, List.getElem_cons_succ, Act.put, List.setIfInBounds_toArray, List.set_cons_zero, List.set_cons_succ]
      have HB3 := hide (thenB (unhide HB) hG)
      clear hG
      cases z
      case false =>
        have e : (L.all fun p => smallF p.1) = false := by
          have h := unhide HX
          rw [List.all_eq_false]
          refine ⟨p, List.mem_of_getElem? h.1, ?_⟩
          rw [← unhide HZ]; decide
        have E := hide e
        clear e
        go_wp2_with fail
        go_ret
        exact ⟨by rw [unhide HR, unhide E]; rfl, unhide HB3⟩
      go_wp2_with fail
      go_roundg g
      case measure => omega
      case rel =>
        have h := unhide HX
        refine ⟨k + 1, rfl, by omega, ?_, unhide HB3⟩
        have hlt : k < L.length := (List.getElem?_eq_some_iff.1 h.1).1
        rw [List.take_succ_eq_append_getElem hlt, List.all_append, unhide HALL]
        have he : L[k] = p := (List.getElem?_eq_some_iff.1 h.1).2
        simp only [List.all_cons, List.all_nil, he, Bool.and_true, Bool.true_and]
        exact (unhide HZ).symm
    · have i1 : ¬ (k : Int) < (n : Int) := by omega
      obtain rfl : k = n := by omega
      have e : (L.all fun p => smallF p.1) = true := by
        rw [unhide HN, List.take_length] at hall
        exact hall
      have E := hide e
      clear e hall hk hbw
      go_wp2_with fail
      go_ret
      exact ⟨by rw [unhide HR, unhide E]; rfl, unhide HB⟩
end Go.Proofs.YtdmaopfaeigelaaGreatDoor
namespace Go.Proofs.YtdmaopfaeigelaaGreatDoor
set_option linter.unusedSimpArgs false
set_option linter.unusedVariables false
set_option maxRecDepth 100000
open Go.RowKit

theorem few_any (b c : Nat) (L : List (Fc × Ad)) (w : World) (h : VsAt w b 45 (rowF L)) (hv : ∀ p ∈ L, p.1.void.length = 32) (hl : L.length ≤ 12) (hc : L.length ≤ c) :
    Calls Tryz.prog 12 #[.slice (some ⟨b, 0, none⟩) L.length c] w fun e w' => e = .returned (.bool (L.all fun p => smallF p.1)) ∧ Below w.heap.size w w' := by
  have h1 := rfew_any b c L 12 w h hv (by omega) hc
  rw [decide_eq_true (by omega : (L.length : Int) ≤ 12), Bool.and_true] at h1
  obtain ⟨n, hn⟩ : ∃ n, n = L.length := ⟨_, rfl⟩
  obtain ⟨z, hz⟩ : ∃ z, z = L.all fun p => smallF p.1 := ⟨_, rfl⟩
  rw [← hn, ← hz] at h1
  rw [← hn, ← hz]
  have H1 := hide h1
  clear h1 hn hz hl hc h hv
  go_enter Tryz.func12, Tryz.ntmps12
  go_wp2_with fail
  refine (unhide H1).mono ?_; rintro e w1 ⟨rfl, hb⟩
  go_wp2_with fail
  go_ret
  exact ⟨rfl, hb⟩
def LawOk (w : World) (e : Ending) (w' : World) : Prop := e = .returned (.bool true) ∧ Below w.heap.size w w'
theorem wpList_buildRow {P : Program} {ops : Array Oper} {rest : List Oper} {o : Oper} {a : Act} {w : World} {Q : Exit → Act → World → Prop} (hg : o.guard = none) (t e : TypeId) (len : Nat) (parts : Array (Nat × Operand)) (ho : o.op = .buildSlice t len parts)
    (vs : List Value) (s : Nat) (hs : 0 < s) (hu : P.underlying t = some (.slice e)) (hsz : (P.info? e).map (·.size) = some s) (hz : ((P.info? e).bind (·.zero)).isSome = true) (hlen : len = vs.length) (hpos : 0 < len) (hsmall : len * s ≤ 2 ^ 24)
    (hparts : (parts.map fun (i, x) => (i, a.eval x)).toList = (vs.zipIdx 0).map fun x => (x.2, x.1)) (h1 : ∀ v ∈ vs, v.cells.size = s)
    (h : wpList P ops Q rest (a.put o.dst (.slice (some ⟨w.heap.size, 0, none⟩) len len)) (w.alloc (.cells (vs.flatMap fun v => v.cells.toList).toArray e))) : wpList P ops Q (o :: rest) a w := by
  cases hie : P.info? e with
  | none => simp [hie] at hsz
  | some ie =>
    simp only [hie, Option.map_some, Option.some.injEq, Option.bind_some] at hsz hz
    obtain ⟨z, hzz⟩ := Option.isSome_iff_exists.1 hz
    refine wpList_buildSlice hg t e len parts ho _ ie z hu hie hzz (by rw [hsz]; omega) (by rw [hsz]; exact Nat.ne_of_gt (Nat.mul_pos hpos hs)) ?_ h
    rw [hparts, hsz]
    exact Great.fill_whole hs vs _ h1 (by simp [hlen])
/-- what is known of an argument: its lists lie in memory if they are short -/
structure FArg (w : World) (f : Fc) (a : Ad) : Prop where
  at_ : smallF f = true → FAt w f a
  void : f.void.length = 32
  wf : FWf f
  byt : ∀ x ∈ f.void, 0 ≤ x ∧ x ≤ 255
end Go.Proofs.YtdmaopfaeigelaaGreatDoor
