/- Contracts over the codec's program: the reference's reader: number after a refusal, text. -/
import Derived.Test.YtclpbjdnollfcaaDoorCodRRd
import Derived.Deep.QuietTactic
import Derived.BigQuiet
namespace Go.Proofs.YtclpbjdnollfcaaDoor
set_option linter.unusedSimpArgs false
set_option linter.unusedVariables false
open Go.RowKit

theorem wp_region_quiet_R {P : Program} {C : World → Prop} {id : Nat} {Q : Exit → Act → World → Prop} {a : Act} {w : World} {l : List Oper} (hm : P.follows .mixedOrders = true) (hB : Region.lexB .any l.toArray = true) (hC : C (w.drewN 1))
    (h : wpQuiet P l.toArray C (fun a' => ∀ w', C w' → Q .normal a' w') l a) : (Code.region id l.toArray true).wp P Q a w :=
  wp_region_quiet hm hB hC (by simpa using h)
theorem RR.atSum {w : World} {rb : Nat} {A : Option Addr} {c : Nat} {l : List UInt8} {p : Nat} {bad : Bool} (n : Nat) (h : RR w rb A c l p bad) : RR (w.setCell ⟨rb, 1, none⟩ (.int .i64 ((p : Int) + (n : Int)))) rb A c l (p + n) bad := by
  have := h.at (p + n)
  rwa [show ((p + n : Nat) : Int) = (p : Int) + (n : Int) by omega] at this
structure ClsR (S : World → Prop) where
  w : World
  h : S w

set_option maxRecDepth 100000 in
set_option maxHeartbeats 4000000 in
theorem number_dead (e : UInt8) (most : Nat) (w : World) (rb : Nat) (A : Option Addr) (c : Nat) (l : List UInt8) (p : Nat) (h : RR w rb A c l p true) (hp : p ≤ 3000) (hm : most < 18446744073709551616) :
    Calls Tryd.prog 53 #[.pointer (some ⟨rb, 0, none⟩), .int .u8 (e.toNat : Int), .int .u64 (most : Int)] w fun e w' => e = .returned (.int .u64 0) ∧ RR w' rb A c l (p + 1) true ∧ Moved w rb w' := by
  have hr0 := h.c0; have hr1 := h.c1; have hr2 := h.c2; have hf1 := h.free 1; have hf2 := h.free 2
  have hrb := h.lt
  have HH := hide h
  have hq0 : (0 : Int) ≤ (p : Int) := Int.natCast_nonneg _
  have hq1 : (p : Int) ≤ 3000 := by omega
  clear h
  go_enter Tryd.func53, Tryd.ntmps53
  go_wp2_with fail
  go_loopw [7, 9] (fun n x wr => n = .int .u64 0 ∧ wr = w) (fun n x wr => 0)
  case atStart => exact ⟨rfl, rfl⟩
  case round =>
    obtain ⟨rfl, rfl⟩ := hrel
    go_wp2_with fail
    go_ret
    exact ⟨rfl, ((unhide HH).mark true).at1, movedSet (movedSet (World.grownBy.refl _ _) _ _) _ _⟩

/-- what text reads -/
def textR (L : Nat) (bs : List UInt8) : Option (List UInt8 × List UInt8) :=
  match numR 58 L bs with
  | some (n, t) => if t.length < n then none else some (t.take n, t.drop n)
  | none => none
/-- text has been read, or the reader has refused -/
def RTxt (rb : Nat) (A : Option Addr) (c : Nat) (l : List UInt8) (r : Option (List UInt8 × List UInt8)) (w : World) (e : Ending) (w' : World) : Prop :=
  Moved w rb w' ∧ ∃ (s : ByteArray) (p' : Nat), e = .returned (.string s) ∧
    match r with
    | some (s', t) => s = ⟨s'.toArray⟩ ∧ p' ≤ l.length ∧ l.drop p' = t ∧ RR w' rb A c l p' false
    | none => p' ≤ l.length + 1 ∧ RR w' rb A c l p' true
theorem numR_le {e : UInt8} {most : Nat} {bs : List UInt8} {n : Nat} {t : List UInt8} (h : numR e most bs = some (n, t)) : n ≤ most := by
  unfold numR at h
  split at h
  · split at h
    · cases h
    · rename_i hk
      injection h with h
      injection h with h1 h2
      omega
  · cases h

set_option maxRecDepth 100000 in
set_option maxHeartbeats 4000000 in
theorem text_ref (w : World) (rb : Nat) (A : Option Addr) (c : Nat) (l : List UInt8) (p : Nat) (h : RR w rb A c l p false) (hp : p ≤ l.length) (hc : l.length ≤ c) (hc2 : c ≤ 9223372036854775807) :
    Calls Tryd.prog 54 #[.pointer (some ⟨rb, 0, none⟩)] w (RTxt rb A c l (textR l.length (l.drop p)) w) := by
  have hl := h.2.2
  have hr0 := h.c0
  have hrb := h.lt
  have HN := hide (number_ref 58 l.length w rb A c l p h hp (by decide) (by omega))
  have h58 : ((58 : UInt8).toNat : Int) = 58 := rfl
  rw [h58] at HN
  clear h
  have hl0 : (0 : Int) ≤ (l.length : Int) := Int.natCast_nonneg _
  have hl1 : (l.length : Int) ≤ 2000 := by omega
  generalize hr : textR l.length (l.drop p) = r
  unfold textR at hr
  cases hnr : numR 58 l.length (l.drop p) with
  | none =>
    rw [hnr] at HN hr
    have HR := hide hr
    clear hr hnr h58
    go_enter Tryd.func54, Tryd.ntmps54
    go_wp2_with fail
    refine (unhide HN).mono ?_; rintro e1 w1 ⟨hm1, n, p', rfl, hn, hp', hR1⟩
    have HR1 := hide hR1; have HM1 := hide hm1
    clear hr0
    have hr2 := hR1.c2; have hf2 := hR1.free 2
    clear hR1 hm1
    go_wp2_with fail
    go_quiet (fail)
    go_wp2_with fail
    go_ret
    refine ⟨movedSet ((unhide HM1).trans (belowGrown rb (belowDrewN _ (Below.refl _ _)))) _ _, _, p', rfl, ?_⟩
    rw [← unhide HR]
    exact ⟨hp', ((unhide HR1).below (belowDrewN _ (Below.refl _ _))).mark true⟩
  | some q =>
    obtain ⟨n, t⟩ := q
    rw [hnr] at HN hr
    dsimp only at hr
    have hnl := numR_le hnr
    have hlpos : 0 < l.length := by
      rcases Nat.eq_zero_or_pos l.length with h0 | h0
      · rw [List.length_eq_zero_iff.1 h0] at hnr
        simp [numR, numRL] at hnr
      · exact h0
    have HR := hide hr
    clear hr hnr h58
    go_enter Tryd.func54, Tryd.ntmps54
    go_wp2_with fail
    refine (unhide HN).mono ?_; rintro e1 w1 ⟨hm1, n', p', rfl, hn, rfl, hp', hdp, hR1⟩
    have HR1 := hide hR1; have HM1 := hide hm1
    clear hr0
    have hr0 := hR1.c0; have hr1 := hR1.c1; have hr2 := hR1.c2; have hf1 := hR1.free 1; have hf2 := hR1.free 2
    have htl : t.length = l.length - p' := by rw [← hdp, List.length_drop]
    have hp0 : (0 : Int) ≤ (p' : Int) := Int.natCast_nonneg _
    have hp1 : (p' : Int) ≤ (l.length : Int) := by omega
    have hn0 : (0 : Int) ≤ (n' : Int) := Int.natCast_nonneg _
    have hn1 : (n' : Int) ≤ (l.length : Int) := by omega
    obtain ⟨g, o, rfl, hgr, hglt, hrow⟩ := hR1.2.1.row hlpos
    have HROW := hide hrow
    have HDP := hide hdp
    clear hR1 hm1 hn hrow hdp HN
    generalize hll : l.length = L at *
    have HLL := hide hll
    clear hll
    by_cases hlt : t.length < n'
    · have hgt : ((L : Int) - (p' : Int)) < (n' : Int) := by omega
      have hr := unhide HR
      rw [if_pos hlt] at hr
      have HRES := hide hr
      clear hr HR hlt
      go_wp2_with fail
      go_quiet (fail)
      go_wp2_with fail
      go_ret
      refine ⟨movedSet ((unhide HM1).trans (belowGrown rb (belowDrewN _ (Below.refl _ _)))) _ _, _, p', rfl, ?_⟩
      rw [← unhide HRES]
      exact ⟨by have := unhide HLL; omega, ((unhide HR1).below (belowDrewN _ (Below.refl _ _))).mark true⟩
    · have hgt : ¬ ((L : Int) - (p' : Int)) < (n' : Int) := by omega
      have hr := unhide HR
      rw [if_neg hlt] at hr
      have HRES := hide hr
      clear hr HR hlt
      go_wp2_with fail
      go_quiet (fail)
      go_wp2_with fail
      have hsum : (p' : Int) + (n' : Int) ≤ (L : Int) := by omega
      have hLc : (L : Int) ≤ (c : Int) := by omega
      have hc9 : (c : Int) ≤ 9223372036854775807 := by omega
      have HRN := hide (fun x : ClsR (fun W => Below w1.heap.size w1 W) => (unhide HR1).below x.h)
      have hBT : ∀ x : ClsR (fun W => Below w1.heap.size w1 W), BAt x.w (.slice (some ⟨g, if p' < c then o + p' else o, none⟩) n' (c - p')) (t.take n') := by
        intro x
        have hlen : (t.take n').length = n' := by rw [List.length_take]; omega
        refine ⟨_, c - p', by rw [hlen], .inr ⟨g, _, rfl, Nat.lt_of_lt_of_le hglt x.h.size⟩, by rw [hlen]; omega, by omega, ?_⟩
        intro i b hib
        have hi : i < n' := by
          have := (List.getElem?_eq_some_iff.1 hib).1
          omega
        rw [List.getElem?_take_of_lt hi, ← unhide HDP, List.getElem?_drop] at hib
        have hx := (unhide HROW) (p' + i) b hib
        refine ⟨g, _, rfl, ?_⟩
        rw [if_pos (by omega), Nat.add_assoc]
        exact (x.h.cell (World.block_lt_of_cell? _ _ hx)).trans hx
      have hV := fun x => (hBT x).conv
      generalize hst : (⟨(t.take n').toArray⟩ : ByteArray) = st at hV
      have hcv : ∀ x : ClsR (fun W => Below w1.heap.size w1 W), (convert 68 3 (.int .u64 (n' : Int))).run Tryd.prog x.w = .ok (.int .i64 (n' : Int)) x.w := by
        intro x
        have h := run_convert_int (P := Tryd.prog) x.w 68 3 .u64 (n' : Int) (by kernel_rfl) (by kernel_rfl)
        rw [h, show Tryd.prog.intKind 3 = .i64 from by kernel_rfl, show IntKind.i64.wrap (n' : Int) = (n' : Int) from by simp [IntKind.wrap, IntKind.bits, IntKind.signed]; omega]
      have hT0 := fun x => (unhide HRN x).c0
      have hT1 := fun x => (unhide HRN x).c1
      rw [unhide HLL] at hT0
      have hTn : Nonempty (ClsR (fun W => Below w1.heap.size w1 W)) := ⟨⟨_, belowDrewN nq (Below.refl _ _)⟩⟩
      have HST := hide hst
      clear hst hBT
      refine wp_region_quiet_R (C := fun W => ∃ x : ClsR (fun W => Below w1.heap.size w1 W), W = x.w) (by kernel_rfl) (by kernel_rfl) ⟨⟨_, belowDrewN 1 (belowDrewN nq (Below.refl _ _))⟩, rfl⟩ ?_
      by_cases hpc : p' < c
      · have hne : ¬ p' = c := by omega
        simp only [if_pos hpc] at hV
        repeat (go_big_quiet_step (fail))
        refine wpQuiet_nil ?_
        rintro _ ⟨x, rfl⟩
        have hR2 := (unhide HRN) x
        have hr0 := hR2.c0; have hr1 := hR2.c1; have hf1 := hR2.free 1
        have HR2 := hide hR2
        have HM2 := hide ((unhide HM1).trans (belowGrown rb x.h))
        clear hR2 hT0 hT1 hV hcv hTn HRN
        go_wp2_with fail
        go_ret
        refine ⟨movedSet (unhide HM2) _ _, _, p' + n', rfl, ?_⟩
        rw [← unhide HRES]
        exact ⟨(unhide HST).symm, by have := unhide HLL; omega, by rw [← unhide HDP, List.drop_drop], (unhide HR2).atSum n'⟩
      · have hpe : p' = c := by omega
        have hn00 : n' = 0 := by omega
        subst hpe
        subst hn00
        simp only [if_neg hpc, Nat.sub_self] at hV
        repeat (go_big_quiet_step (fail))
        refine wpQuiet_nil ?_
        rintro _ ⟨x, rfl⟩
        have hR2 := (unhide HRN) x
        have hr0 := hR2.c0; have hr1 := hR2.c1; have hf1 := hR2.free 1
        have HR2 := hide hR2
        have HM2 := hide ((unhide HM1).trans (belowGrown rb x.h))
        clear hR2 hT0 hT1 hV hcv hTn HRN
        go_wp2_with fail
        go_ret
        refine ⟨movedSet (unhide HM2) _ _, _, p' + 0, rfl, ?_⟩
        rw [← unhide HRES]
        exact ⟨(unhide HST).symm, by have := unhide HLL; omega, by rw [← unhide HDP, List.drop_drop], (unhide HR2).atSum 0⟩
end Go.Proofs.YtclpbjdnollfcaaDoor
