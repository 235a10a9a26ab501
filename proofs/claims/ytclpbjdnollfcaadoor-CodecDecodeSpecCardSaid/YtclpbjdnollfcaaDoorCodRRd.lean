/- Contracts over the codec's program: the reference's reader: next, number. -/
import Derived.Test.YtclpbjdnollfcaaDoorCodREncode
import Derived.Test.YtclpbjdnollfcaaDoorCodReader2
import Derived.Test.YtclpbjdnollfcaaDoorCodText
namespace Go.Proofs.YtclpbjdnollfcaaDoor
set_option linter.unusedSimpArgs false
set_option linter.unusedVariables false
open Go.RowKit

/-- the reference's reader at block rb: it reads l, stands at p, and has been refused (bad) or not -/
def RR (w : World) (rb : Nat) (A : Option Addr) (c : Nat) (l : List UInt8) (p : Nat) (bad : Bool) : Prop :=
  w.heap[rb]? = some (.cells #[.slice A l.length c, .int .i64 (p : Int), .bool bad] 55 (0, 0)) ∧ BytesAt w rb A l ∧ l.length ≤ 2000
theorem RR.lt {w : World} {rb : Nat} {A : Option Addr} {c : Nat} {l : List UInt8} {p : Nat} {bad : Bool} (h : RR w rb A c l p bad) : rb < w.heap.size := (Array.getElem?_eq_some_iff.1 h.1).1
theorem RR.c0 {w : World} {rb : Nat} {A : Option Addr} {c : Nat} {l : List UInt8} {p : Nat} {bad : Bool} (h : RR w rb A c l p bad) : w.cell? ⟨rb, 0, none⟩ = some (.slice A l.length c) := by simp [World.cell?, h.1]
theorem RR.c1 {w : World} {rb : Nat} {A : Option Addr} {c : Nat} {l : List UInt8} {p : Nat} {bad : Bool} (h : RR w rb A c l p bad) : w.cell? ⟨rb, 1, none⟩ = some (.int .i64 (p : Int)) := by simp [World.cell?, h.1]
theorem RR.c2 {w : World} {rb : Nat} {A : Option Addr} {c : Nat} {l : List UInt8} {p : Nat} {bad : Bool} (h : RR w rb A c l p bad) : w.cell? ⟨rb, 2, none⟩ = some (.bool bad) := by simp [World.cell?, h.1]
theorem RR.free {w : World} {rb : Nat} {A : Option Addr} {c : Nat} {l : List UInt8} {p : Nat} {bad : Bool} (h : RR w rb A c l p bad) (i : Nat) : w.frozen? ⟨rb, i, none⟩ = false := by simp [World.frozen?, h.1]
theorem RR.below {w w' : World} {rb : Nat} {A : Option Addr} {c : Nat} {l : List UInt8} {p : Nat} {bad : Bool} (h : RR w rb A c l p bad) (hb : Below w.heap.size w w') : RR w' rb A c l p bad :=
  ⟨(hb.block rb h.lt).trans h.1, h.2.1.keep (hb.mono (Nat.le_of_lt h.lt)), h.2.2⟩
theorem RR.at {w : World} {rb : Nat} {A : Option Addr} {c : Nat} {l : List UInt8} {p : Nat} {bad : Bool} (h : RR w rb A c l p bad) (p' : Nat) : RR (w.setCell ⟨rb, 1, none⟩ (.int .i64 (p' : Int))) rb A c l p' bad := by
  refine ⟨?_, h.2.1.keep (Below.setCell (p := ⟨rb, 1, none⟩) (Below.refl rb w) (Nat.le_refl rb) _), h.2.2⟩
  rw [setCell_eq_setRow w rb 1 _ _ _ _ h.1, setRow_heap w rb _ _ _ _ h.1]
  rfl
theorem RR.mark {w : World} {rb : Nat} {A : Option Addr} {c : Nat} {l : List UInt8} {p : Nat} {bad : Bool} (h : RR w rb A c l p bad) (bad' : Bool) : RR (w.setCell ⟨rb, 2, none⟩ (.bool bad')) rb A c l p bad' := by
  refine ⟨?_, h.2.1.keep (Below.setCell (p := ⟨rb, 2, none⟩) (Below.refl rb w) (Nat.le_refl rb) _), h.2.2⟩
  rw [setCell_eq_setRow w rb 2 _ _ _ _ h.1, setRow_heap w rb _ _ _ _ h.1]
  rfl
/-- only the reader has changed -/
abbrev Moved (w : World) (rb : Nat) (w' : World) : Prop := w.grownBy w' (some rb)
theorem movedSet {w W : World} {rb : Nat} (h : w.grownBy W (some rb)) (i : Nat) (x : Value) : w.grownBy (W.setCell ⟨rb, i, none⟩ x) (some rb) := by
  refine h.trans ⟨rfl, rfl, rfl, by simp, fun k hk hne => ?_⟩
  have : k ≠ rb := fun e => hne (by rw [e])
  exact Below.heap_setCell _ _ _ _ (by show k ≠ rb; exact this)
set_option maxHeartbeats 1000000 in
theorem next_some (w : World) (rb : Nat) (A : Option Addr) (c : Nat) (l : List UInt8) (p : Nat) (bad : Bool) (b : UInt8) (h : RR w rb A c l p bad) (hb : l[p]? = some b) :
    Calls Tryd.prog 52 #[.pointer (some ⟨rb, 0, none⟩)] w fun e w' => e = .returned (.int .u8 (b.toNat : Int)) ∧ Below w.heap.size w w' := by
  have hc0 := h.c0; have hc1 := h.c1
  obtain ⟨g, o, rfl, hne, hx⟩ := h.2.1 p b hb
  have hp : p < l.length := (List.getElem?_eq_some_iff.1 hb).1
  have hl := h.2.2
  clear h hb
  generalize l.length = m at hp hl hc0
  have b1 : decide ((p : Int) < (m : Int)) = true := decide_eq_true (by omega)
  go_enter Tryd.func52, Tryd.ntmps52
  go_wp2_with fail
  go_quiet (fail)
  go_wp2_with fail
  go_quiet (fail)
  go_wp2_with fail
  go_ret
  exact ⟨rfl, belowDrewN _ (belowDrewN _ (Below.refl _ _))⟩
set_option maxHeartbeats 1000000 in
theorem next_none (w : World) (rb : Nat) (A : Option Addr) (c : Nat) (l : List UInt8) (p : Nat) (bad : Bool) (h : RR w rb A c l p bad) (hp : l.length ≤ p) (hp2 : p ≤ 1000000000) :
    Calls Tryd.prog 52 #[.pointer (some ⟨rb, 0, none⟩)] w fun e w' => e = .returned (.int .u8 0) ∧ RR w' rb A c l p true ∧ Moved w rb w' := by
  have hc0 := h.c0; have hc1 := h.c1; have hc2 := h.c2; have hf := h.free 2
  have HH := hide h
  have hl := h.2.2
  clear h
  have b1 : decide ((p : Int) < (l.length : Int)) = false := decide_eq_false (by omega)
  generalize l.length = m at hp hl hc0 b1
  go_enter Tryd.func52, Tryd.ntmps52
  go_wp2_with fail
  go_quiet (fail)
  go_wp2_with fail
  go_ret
  exact ⟨rfl, ((unhide HH).below (belowDrewN _ (Below.refl _ _))).mark true, movedSet (belowGrown rb (belowDrewN _ (Below.refl _ _))) _ _⟩

/-- what number reads: digits up to the byte e; z: they begin with 0 -/
def numRL (e : UInt8) (z : Bool) : List UInt8 → Nat → Nat → Option (Nat × Nat × List UInt8)
  | [], _, _ => none
  | b :: t, k, n => if b = e then some (n, k, t) else if b.toNat < 48 ∨ 57 < b.toNat ∨ 18 < k ∨ (0 < k ∧ z = true) then none else numRL e z t (k + 1) (10 * n + (b.toNat - 48))
def numR (e : UInt8) (most : Nat) (bs : List UInt8) : Option (Nat × List UInt8) :=
  match numRL e (bs.head? == some 48) bs 0 0 with
  | some (n, k, t) => if k = 0 ∨ most < n then none else some (n, t)
  | none => none
/-- number has been read, or the reader has refused -/
def RNum (rb : Nat) (A : Option Addr) (c : Nat) (l : List UInt8) (r : Option (Nat × List UInt8)) (w : World) (e : Ending) (w' : World) : Prop :=
  Moved w rb w' ∧ ∃ n p' : Nat, e = .returned (.int .u64 (n : Int)) ∧ n < 18446744073709551616 ∧
    match r with
    | some (n', t) => n = n' ∧ p' ≤ l.length ∧ l.drop p' = t ∧ RR w' rb A c l p' false
    | none => p' ≤ l.length + 1 ∧ RR w' rb A c l p' true
theorem drop_at {l : List UInt8} {p : Nat} {b : UInt8} (h : l[p]? = some b) : l.drop p = b :: l.drop (p + 1) := by
  obtain ⟨hp, e⟩ := List.getElem?_eq_some_iff.1 h
  rw [List.drop_eq_getElem_cons hp, e]
theorem drop_none {l : List UInt8} {p : Nat} (h : l[p]? = none) : l.drop p = [] := by
  rw [List.getElem?_eq_none_iff] at h
  exact List.drop_eq_nil_of_le h
theorem numR_at {e : UInt8} {most : Nat} {bs t : List UInt8} {z : Bool} {k m : Nat} {r : Option (Nat × List UInt8)} (hz : (bs.head? == some 48) = z) (hr : numR e most bs = r) (hN : numRL e z bs 0 0 = numRL e z t k m) :
    r = match numRL e z t k m with
      | some (n, k, t) => if k = 0 ∨ most < n then none else some (n, t)
      | none => none := by
  rw [← hr, numR, hz, hN]
theorem RR.nat {w : World} {rb : Nat} {A : Option Addr} {c : Nat} {l : List UInt8} {p p' : Nat} {bad : Bool} (h : RR w rb A c l p bad) (e : p = p') : RR w rb A c l p' bad := e ▸ h
theorem RR.at1 {w : World} {rb : Nat} {A : Option Addr} {c : Nat} {l : List UInt8} {p : Nat} {bad : Bool} (h : RR w rb A c l p bad) : RR (w.setCell ⟨rb, 1, none⟩ (.int .i64 ((p : Int) + 1))) rb A c l (p + 1) bad := by
  have := h.at (p + 1)
  rwa [show ((p + 1 : Nat) : Int) = (p : Int) + 1 by omega] at this

set_option maxRecDepth 100000 in
set_option maxHeartbeats 4000000 in
theorem number_ref (e : UInt8) (most : Nat) (w : World) (rb : Nat) (A : Option Addr) (c : Nat) (l : List UInt8) (p : Nat) (h : RR w rb A c l p false) (hp : p ≤ l.length) (he : e.toNat ≠ 0) (hm : most < 18446744073709551616) :
    Calls Tryd.prog 53 #[.pointer (some ⟨rb, 0, none⟩), .int .u8 (e.toNat : Int), .int .u64 (most : Int)] w (RNum rb A c l (numR e most (l.drop p)) w) := by
  have hl := h.2.2
  have HH := hide h
  have hc1 := h.c1
  have hrb := h.lt
  generalize hr : numR e most (l.drop p) = r
  have HR := hide hr
  generalize hz : ((l.drop p).head? == some 48) = z
  have HZ := hide hz
  have he0 : ((0 : Int) != (e.toNat : Int)) = true := by simp; omega
  clear h hr hz
  go_enter Tryd.func53, Tryd.ntmps53
  go_wp2_with fail
  go_loopw [7, 9] (fun n x wr => ∃ k m q : Nat, n = .int .u64 (m : Int) ∧ q = p + k ∧ q ≤ l.length ∧ RR wr rb A c l q false ∧ Moved w rb wr ∧ numRL e z (l.drop p) 0 0 = numRL e z (l.drop q) k m ∧ m < 10 ^ k ∧ k ≤ 19) (fun n x wr => l.length - (match wr.cell? ⟨rb, 1, none⟩ with | some (.int _ q) => q.toNat | _ => 0))
  case atStart => exact ⟨0, 0, p, rfl, rfl, hp, unhide HH, World.grownBy.refl _ _, rfl, by decide, by decide⟩
  case round =>
    obtain ⟨k, m, q, rfl, hq, hql, hR, hM, hN, hmk, hk⟩ := hrel
    have hr0 := hR.c0; have hr1 := hR.c1; have hr2 := hR.c2
    have hrlt := hR.lt
    have HRR := hide hR; have HM := hide hM; have HN := hide hN
    have HMK := hide hmk; have HQ := hide hq
    clear hR hM hN hmk hq
    cases hb : l[q]? with
    | none =>
      have hql2 : l.length ≤ q := by rw [List.getElem?_eq_none_iff] at hb; exact hb
      have HRES := hide (numR_at (unhide HZ) (unhide HR) (unhide HN))
      have HD := hide (drop_none hb)
      clear hb
      go_wp2_with fail
      refine (next_none wr rb A c l q false (unhide HRR) hql2 (by omega)).mono ?_; rintro e1 w1 ⟨rfl, hR1, hM1⟩
      have HR1 := hide hR1; have HM1 := hide ((unhide HM).trans hM1); clear hR1 hM1 hr0 hr1 hr2
      go_wp2_with fail
      refine (next_none w1 rb A c l q true (unhide HR1) hql2 (by omega)).mono ?_; rintro e1 w2 ⟨rfl, hR2, hM2⟩
      have HR2 := hide hR2; have HM2 := hide ((unhide HM1).trans hM2); 
      have hr2 := hR2.c2; have hf2 := hR2.free 2
      clear hR2 hM2
      go_wp2_with fail
      go_ret
      refine ⟨movedSet (unhide HM2) _ _, 0, q, rfl, by decide, ?_⟩
      rw [unhide HRES, unhide HD]
      exact ⟨by omega, (unhide HR2).mark true⟩
    | some b =>
      have hqlt : q < l.length := (List.getElem?_eq_some_iff.1 hb).1
      have hdr := drop_at hb
      by_cases hbe : b = e
      · have hne : ((b.toNat : Int) != (e.toNat : Int)) = false := by rw [hbe]; simp
        have hres := numR_at (unhide HZ) (unhide HR) (unhide HN)
        rw [hdr, numRL, if_pos hbe] at hres
        have HRES := hide hres
        have HNB := hide (fun (W : World) (hW : RR W rb A c l q false) => next_some W rb A c l q false b hW hb)
        clear hb hres hdr hbe HN HR HZ
        go_wp2_with fail
        refine ((unhide HNB) wr (unhide HRR)).mono ?_; rintro e1 w1 ⟨rfl, hb1⟩
        have hR1 := (unhide HRR).below hb1
        have HR1 := hide hR1; have HM1 := hide ((unhide HM).trans (belowGrown rb hb1))
        clear hb1 hr0 hr1 hr2
        have hr1 := hR1.c1; have hr2 := hR1.c2; have hf1 := hR1.free 1; have hf2 := hR1.free 2
        clear hR1
        have hq0 : (0 : Int) ≤ (q : Int) := Int.natCast_nonneg _
        have hq1 : (q : Int) ≤ 2000 := by omega
        have HMB := hide (show m < 18446744073709551616 from Nat.lt_of_lt_of_le (unhide HMK) (Nat.le_trans (Nat.pow_le_pow_right (by decide) hk) (by decide)))
        by_cases hk0 : k = 0
        · have hqp : ((q : Int) == (p : Int)) = true := by have := unhide HQ; simp; omega
          have hres := unhide HRES
          rw [if_pos (Or.inl hk0)] at hres
          have HRES2 := hide hres
          clear hres HRES hk0 HMK
          go_wp2_with fail
          go_ret
          refine ⟨movedSet (movedSet (unhide HM1) _ _) _ _, m, q + 1, rfl, unhide HMB, ?_⟩
          rw [unhide HRES2]
          exact ⟨by omega, ((unhide HR1).mark true).at1⟩
        · have hqp : ((q : Int) == (p : Int)) = false := by have := unhide HQ; simp; omega
          by_cases hmost : most < m
          · have hres := unhide HRES
            rw [if_pos (Or.inr hmost)] at hres
            have HRES2 := hide hres
            clear hres HRES hk0 HMK
            go_wp2_with fail
            go_ret
            refine ⟨movedSet (movedSet (unhide HM1) _ _) _ _, m, q + 1, rfl, unhide HMB, ?_⟩
            rw [unhide HRES2]
            exact ⟨by omega, ((unhide HR1).mark true).at1⟩
          · have hres := unhide HRES
            rw [if_neg (by omega)] at hres
            have HRES2 := hide hres
            clear hres HRES hk0 HMK
            go_wp2_with fail
            go_ret
            refine ⟨movedSet (unhide HM1) _ _, m, q + 1, rfl, unhide HMB, ?_⟩
            rw [unhide HRES2]
            exact ⟨rfl, by omega, rfl, (unhide HR1).at1⟩
      · have hne : ((b.toNat : Int) != (e.toNat : Int)) = true := by
          have : b.toNat ≠ e.toNat := fun h => hbe (UInt8.toNat_inj.1 h)
          simp; omega
        have hres := numR_at (unhide HZ) (unhide HR) (unhide HN)
        rw [hdr, numRL, if_neg hbe] at hres
        have HRES := hide hres
        have hnx := unhide HN
        rw [hdr, numRL, if_neg hbe] at hnx
        have HNX := hide hnx
        have HNB := hide (fun (W : World) (hW : RR W rb A c l q false) => next_some W rb A c l q false b hW hb)
        obtain ⟨b0, hb0⟩ : ∃ b0, b0 = l[p]'(by have := unhide HQ; omega) := ⟨_, rfl⟩
        have hb00 : l[p]? = some b0 := by rw [hb0]; exact List.getElem?_eq_getElem _
        have hzb : (b0.toNat = 48) = (z = true) := by
          have := unhide HZ
          rw [drop_at hb00] at this
          rw [← this]
          simp [← UInt8.toNat_inj]
        have HZB := hide hzb
        have hqp := unhide HQ
        obtain ⟨g, o, hA, hgr, _⟩ := (unhide HRR).2.1 p b0 hb00
        have HX := hide (fun (W : World) (hW : RR W rb A c l q false) => show W.cell? ⟨g, o + p, none⟩ = some (.int .u8 (b0.toNat : Int)) from by
          obtain ⟨g', o', hA', _, hx⟩ := hW.2.1 p b0 hb00
          rw [hA] at hA'
          injection hA' with hA'
          injection hA' with e1 e2
          subst e1 e2
          exact hx)
        clear hb hres hdr hbe HN hb0 hb00 hzb hnx
        have HWC := hide hr1
        go_wp2_with fail
        refine ((unhide HNB) wr (unhide HRR)).mono ?_; rintro e1 w1 ⟨rfl, hb1⟩
        have hR1 := (unhide HRR).below hb1
        have HR1 := hide hR1; have HM1 := hide ((unhide HM).trans (belowGrown rb hb1))
        clear hb1 hr0 hr1 hr2 hR1
        go_wp2_with fail
        refine ((unhide HNB) w1 (unhide HR1)).mono ?_; rintro e1 w2 ⟨rfl, hb2⟩
        have hR2 := (unhide HR1).below hb2
        have HR2 := hide hR2; have HM2 := hide ((unhide HM1).trans (belowGrown rb hb2))
        have hr0 := hR2.c0; have hr1 := hR2.c1; have hr2 := hR2.c2; have hf1 := hR2.free 1; have hf2 := hR2.free 2
        have hx := (unhide HX) w2 hR2
        subst hA
        clear hb2 hR2 HNB HX HM1 HR1 HM HRR
        have hqk : (q : Int) - (p : Int) = (k : Int) := by omega
        have hpl : p < l.length := by omega
        have hk0 : (0 : Int) ≤ (k : Int) := Int.natCast_nonneg _
        have hk9 : (k : Int) ≤ 19 := by omega
        have hq0 : (0 : Int) ≤ (q : Int) := Int.natCast_nonneg _
        have hq1 : (q : Int) ≤ 2000 := by omega
        have HQP := hide hqp
        clear hqp HQ
        by_cases c1 : b.toNat < 48
        · have hres := unhide HRES
          rw [if_pos (Or.inl c1)] at hres
          have HRES2 := hide hres
          clear hres HRES HMK
          go_wp2_with fail
          go_ret
          refine ⟨movedSet (unhide HM2) _ _, 0, q, rfl, by decide, ?_⟩
          rw [unhide HRES2]
          exact ⟨by omega, (unhide HR2).mark true⟩
        by_cases c2 : 57 < b.toNat
        · have hres := unhide HRES
          rw [if_pos (Or.inr (Or.inl c2))] at hres
          have HRES2 := hide hres
          clear hres HRES HMK
          go_wp2_with fail
          go_ret
          refine ⟨movedSet (unhide HM2) _ _, 0, q, rfl, by decide, ?_⟩
          rw [unhide HRES2]
          exact ⟨by omega, (unhide HR2).mark true⟩
        by_cases c3 : 18 < k
        · have hres := unhide HRES
          rw [if_pos (Or.inr (Or.inr (Or.inl c3)))] at hres
          have HRES2 := hide hres
          clear hres HRES HMK
          go_wp2_with fail
          go_ret
          refine ⟨movedSet (unhide HM2) _ _, 0, q, rfl, by decide, ?_⟩
          rw [unhide HRES2]
          exact ⟨by omega, (unhide HR2).mark true⟩
        by_cases c4 : 0 < k
        · have hpq : p < q := by have := unhide HQP; omega
          by_cases c5 : b0.toNat = 48
          · have hzt : z = true := by rw [← unhide HZB]; exact c5
            have hres := unhide HRES
            rw [if_pos (Or.inr (Or.inr (Or.inr ⟨c4, hzt⟩)))] at hres
            have HRES2 := hide hres
            clear hres HRES HMK
            go_wp2_with fail
            go_ret
            refine ⟨movedSet (unhide HM2) _ _, 0, q, rfl, by decide, ?_⟩
            rw [unhide HRES2]
            exact ⟨by omega, (unhide HR2).mark true⟩
          · have hzt : ¬ z = true := by rw [← unhide HZB]; exact c5
            have hN2 := unhide HNX
            rw [if_neg (fun h => by rcases h with h | h | h | ⟨_, h⟩; exact c1 h; exact c2 h; exact c3 h; exact hzt h)] at hN2
            have HN2 := hide hN2
            have hm18 : m < 1000000000000000000 := Nat.lt_of_lt_of_le (unhide HMK) (Nat.le_trans (Nat.pow_le_pow_right (by decide) (show k ≤ 18 by omega)) (by decide))
            have HMK2 := hide (show 10 * m + (b.toNat - 48) < 10 ^ (k + 1) by have := unhide HMK; rw [Nat.pow_succ]; omega)
            clear hN2 HRES HMK
            have hd1 : (48 : Int) ≤ (b.toNat : Int) := by omega
            have hd2 : (b.toNat : Int) ≤ 57 := by omega
            have hd3 : (k : Int) ≤ 18 := by omega
            have hd0 : ((b0.toNat : Int) == 48) = false := by simp; omega
            go_wp2_with fail
            go_roundw
            case rel => exact ⟨k + 1, 10 * m + (b.toNat - 48), q + 1, by congr 1; omega, by have := unhide HQP; omega, by omega, (unhide HR2).at1, movedSet (unhide HM2) _ _, unhide HN2, unhide HMK2, by omega⟩
            case measure =>
              rw [(unhide HR2).at1.c1, unhide HWC]
              simp
              omega
        · have hpq : ¬ p < q := by have := unhide HQP; omega
          have hN2 := unhide HNX
          rw [if_neg (fun h => by rcases h with h | h | h | ⟨h, _⟩; exact c1 h; exact c2 h; exact c3 h; exact c4 h)] at hN2
          have HN2 := hide hN2
          have hm18 : m < 1000000000000000000 := Nat.lt_of_lt_of_le (unhide HMK) (Nat.le_trans (Nat.pow_le_pow_right (by decide) (show k ≤ 18 by omega)) (by decide))
          have HMK2 := hide (show 10 * m + (b.toNat - 48) < 10 ^ (k + 1) by have := unhide HMK; rw [Nat.pow_succ]; omega)
          clear hN2 HRES HMK
          have hd1 : (48 : Int) ≤ (b.toNat : Int) := by omega
          have hd2 : (b.toNat : Int) ≤ 57 := by omega
          have hd3 : (k : Int) ≤ 18 := by omega
          go_wp2_with fail
          go_roundw
          case rel => exact ⟨k + 1, 10 * m + (b.toNat - 48), q + 1, by congr 1; omega, by have := unhide HQP; omega, by omega, (unhide HR2).at1, movedSet (unhide HM2) _ _, unhide HN2, unhide HMK2, by omega⟩
          case measure =>
            rw [(unhide HR2).at1.c1, unhide HWC]
            simp
            omega
end Go.Proofs.YtclpbjdnollfcaaDoor
