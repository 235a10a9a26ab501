/- Contracts over the codec's program: the reference's reader: Value where an integer begins. (Written by wip/tools/gen_rint.py.) -/
import Derived.Test.YtclpbjdnollfcaaDoorCodRVa
namespace Go.Proofs.YtclpbjdnollfcaaDoor
set_option linter.unusedSimpArgs false
set_option linter.unusedVariables false
open Go.RowKit

/-- what is read behind the first byte of an integer -/
def intR : List UInt8 → Option (Int × List UInt8)
  | [] => none
  | b :: r => if b.toNat = 45 then match numR 101 9223372036854775808 r with
      | some (n, t) => if n = 0 then none else some (-(n : Int), t)
      | none => none
    else (numR 101 9223372036854775807 (b :: r)).map fun q => ((q.1 : Int), q.2)
theorem i64_of (n : Nat) (h : n ≤ 9223372036854775807) : I64 (n : Int) := ⟨by omega, by omega⟩
theorem wrap_of (n : Nat) (h : n ≤ 9223372036854775807) : wrap64 (n : Int) = (n : Int) := by unfold wrap64; omega
theorem neg_of (n : Nat) (h : n ≤ 9223372036854775808) (h0 : n ≠ 0) : wrap64 (wrap64 (-wrap64 ((n : Int) - 1)) - 1) = -(n : Int) := by unfold wrap64; omega
theorem i64_neg (n : Nat) (h : n ≤ 9223372036854775808) : I64 (-(n : Int)) := ⟨by omega, by omega⟩
theorem RR.at2 {w : World} {rb : Nat} {A : Option Addr} {c : Nat} {l : List UInt8} {p : Nat} {bad : Bool} (h : RR w rb A c l (p + 1) bad) : RR (w.setCell ⟨rb, 1, none⟩ (.int .i64 ((p : Int) + 1 + 1))) rb A c l (p + 2) bad := by
  have := h.at (p + 2)
  rwa [show ((p + 2 : Nat) : Int) = (p : Int) + 1 + 1 by omega] at this

set_option maxRecDepth 100000 in
set_option maxHeartbeats 4000000 in
theorem value_int_end (d : Int) (D : Nat) (w : World) (rb : Nat) (A : Option Addr) (c : Nat) (l : List UInt8) (p : Nat) (b : UInt8) (h : RR w rb A c l p false) (hb : l[p]? = some b) (hbi : b.toNat = 105) (hb2 : l[p + 1]? = none) :
    Calls Tryd.prog 34 #[.pointer (some ⟨rb, 0, none⟩), .int .i64 d] w (RVal rb A c l D none w) := by
  have hlt := h.lt
  have hl := h.2.2
  have hpl : p < l.length := (List.getElem?_eq_some_iff.1 hb).1
  have HF := hide (fun (W : World) (hW : RR W rb A c l p false) => next_some W rb A c l p false b hW hb)
  have hR0 := h.below ((Below.refl w.heap.size w).alloc (Nat.le_refl _) (.cells zeroCells 25))
  have HR0 := hide hR0
  have b105 : ((b.toNat : Int) == 105) = true := by simp; omega
  have hp0 : (0 : Int) ≤ (p : Int) := Int.natCast_nonneg _
  have hp1 : (p : Int) ≤ 2000 := by omega
  have hpe : l.length ≤ p + 1 := by rw [List.getElem?_eq_none_iff] at hb2; exact hb2
  have HN := hide (fun (W : World) (hW : RR W rb A c l (p + 1) false) => next_none W rb A c l (p + 1) false hW hpe (by omega))
  have HD := hide (fun (W : World) (hW : RR W rb A c l (p + 1) true) => number_dead 101 9223372036854775807 W rb A c l (p + 1) hW (by omega) (by decide))
  clear hb hb2
  clear h hR0
  go_enter Tryd.func34, Tryd.ntmps34
  go_wp2_with fail
  refine ((unhide HF) _ (unhide HR0)).mono ?_; rintro e1 w1 ⟨rfl, hb1⟩
  have hR1 := (unhide HR0).below hb1
  have hx1 := (hb1.block w.heap.size (by simp)).trans (heap_alloc_new _ _)
  have HM1 := hide (movedSet (World.grownBy.trans (World.grownBy_alloc w (.cells zeroCells 25) (some rb)) (belowGrown rb hb1)) 1 (.int .i64 ((p : Int) + 1)))
  have hz1 : w.heap.size < w1.heap.size := by have := hb1.size; simp at this; omega
  have hx1' : (w1.setCell ⟨rb, 1, none⟩ (.int .i64 ((p : Int) + 1))).heap[w.heap.size]? = some (.cells zeroCells 25 (0, 0)) := (Below.heap_setCell _ _ _ _ (by show w.heap.size ≠ rb; omega)).trans hx1
  have hz1' : w.heap.size < (w1.setCell ⟨rb, 1, none⟩ (.int .i64 ((p : Int) + 1))).heap.size := lt_of_block hx1'
  have HX1 := hide hx1'
  have hr1 := hR1.c1; have hr2 := hR1.c2; have hrf1 := hR1.free 1
  have HR1 := hide hR1.at1
  clear hb1 hR1 hx1 hx1'
  go_wp2_with fail
  refine ((unhide HN) _ (unhide HR1)).mono ?_; rintro e1 w2 ⟨rfl, hr2, hg2⟩
  have HR2 := hide hr2; have HG2 := hide hg2
  clear hr2 hg2 HN HR1 HF HR0
  go_wp2_with fail
  refine ((unhide HD) _ (unhide HR2)).mono ?_; rintro e1 w3 ⟨rfl, hr3, hg3⟩
  have HR3 := hide hr3; have hg3 := (unhide HG2).trans hg3
  clear HG2 hr3 HR2
  have hh2 : w3.heap[w.heap.size]? = some (.cells zeroCells 25 (0, 0)) := (hg3.block w.heap.size hz1' (by simp; omega)).trans (unhide HX1)
  have HG2 : Hid (w.grownBy w3 (some rb)) := (unhide HM1).trans hg3
  have hz2 : w.heap.size < w3.heap.size := lt_of_block hh2
  have f0 := (boxAt hh2 0).1; have f1 := (boxAt hh2 1).1; have f2 := (boxAt hh2 2).1; have f3 := (boxAt hh2 3).1; have f4 := (boxAt hh2 4).1
  have g0 := (boxAt hh2 0).2; have g1 := (boxAt hh2 1).2; have g2 := (boxAt hh2 2).2; have g3 := (boxAt hh2 3).2; have g4 := (boxAt hh2 4).2
  simp at f0 f1 f2 f3 f4
  clear hh2 hg3 HX1 HM1
  go_wp2_with fail
  exact bodyPost_ret (v := vaV 1 0 ⟨#[]⟩ none 0 0 none 0 0) (by simp [results, Tryd.results34, go_sem, f0, f1, f2, f3, f4]) rfl ⟨set5 (unhide HG2) (Nat.le_refl _) _ _ _ _ _, 1, 0, ⟨#[]⟩, none, 0, 0, none, 0, 0, p + 2, rfl, by omega, (unhide HR3).keep (below5 (by omega) _ _ _ _ _)⟩

set_option maxRecDepth 100000 in
set_option maxHeartbeats 4000000 in
theorem value_int_pos (d : Int) (D : Nat) (w : World) (rb : Nat) (A : Option Addr) (c : Nat) (l : List UInt8) (p : Nat) (b : UInt8) (h : RR w rb A c l p false) (hb : l[p]? = some b) (hbi : b.toNat = 105) (b2 : UInt8) (hb2 : l[p + 1]? = some b2) (hb45 : b2.toNat ≠ 45) (q : Option (Nat × List UInt8)) (hq : numR 101 9223372036854775807 (l.drop (p + 1)) = q) :
    Calls Tryd.prog 34 #[.pointer (some ⟨rb, 0, none⟩), .int .i64 d] w (RVal rb A c l D (q.map fun q => (.mk 1 (q.1 : Int) ⟨#[]⟩ [] [], q.2)) w) := by
  have hlt := h.lt
  have hl := h.2.2
  have hpl : p < l.length := (List.getElem?_eq_some_iff.1 hb).1
  have HF := hide (fun (W : World) (hW : RR W rb A c l p false) => next_some W rb A c l p false b hW hb)
  have hR0 := h.below ((Below.refl w.heap.size w).alloc (Nat.le_refl _) (.cells zeroCells 25))
  have HR0 := hide hR0
  have b105 : ((b.toNat : Int) == 105) = true := by simp; omega
  have hp0 : (0 : Int) ≤ (p : Int) := Int.natCast_nonneg _
  have hp1 : (p : Int) ≤ 2000 := by omega
  have hpl2 : p + 1 < l.length := (List.getElem?_eq_some_iff.1 hb2).1
  have HN := hide (fun (W : World) (hW : RR W rb A c l (p + 1) false) => next_some W rb A c l (p + 1) false b2 hW hb2)
  have HD := hide (fun (W : World) (hW : RR W rb A c l (p + 1) false) => number_ref 101 9223372036854775807 W rb A c l (p + 1) hW (Nat.le_of_lt hpl2) (by decide) (by decide))
  rw [hq] at HD
  have HQ := hide hq
  have b45 : ((b2.toNat : Int) != 45) = true := by simp; omega
  clear hb hb2 hq
  clear h hR0
  go_enter Tryd.func34, Tryd.ntmps34
  go_wp2_with fail
  refine ((unhide HF) _ (unhide HR0)).mono ?_; rintro e1 w1 ⟨rfl, hb1⟩
  have hR1 := (unhide HR0).below hb1
  have hx1 := (hb1.block w.heap.size (by simp)).trans (heap_alloc_new _ _)
  have HM1 := hide (movedSet (World.grownBy.trans (World.grownBy_alloc w (.cells zeroCells 25) (some rb)) (belowGrown rb hb1)) 1 (.int .i64 ((p : Int) + 1)))
  have hz1 : w.heap.size < w1.heap.size := by have := hb1.size; simp at this; omega
  have hx1' : (w1.setCell ⟨rb, 1, none⟩ (.int .i64 ((p : Int) + 1))).heap[w.heap.size]? = some (.cells zeroCells 25 (0, 0)) := (Below.heap_setCell _ _ _ _ (by show w.heap.size ≠ rb; omega)).trans hx1
  have hz1' : w.heap.size < (w1.setCell ⟨rb, 1, none⟩ (.int .i64 ((p : Int) + 1))).heap.size := lt_of_block hx1'
  have HX1 := hide hx1'
  have hr1 := hR1.c1; have hr2 := hR1.c2; have hrf1 := hR1.free 1
  have HR1 := hide hR1.at1
  clear hb1 hR1 hx1 hx1'
  go_wp2_with fail
  refine ((unhide HN) _ (unhide HR1)).mono ?_; rintro e1 w2 ⟨rfl, hb2⟩
  have HR2 := hide ((unhide HR1).below hb2); have HG2 := hide (belowGrown rb hb2)
  clear hb2 HN HR1 HF HR0
  go_wp2_with fail
  refine ((unhide HD) _ (unhide HR2)).mono ?_; rintro e1 w3 ⟨hg3, n', p', rfl, hn', hcase⟩
  have HC := hide hcase; have hg3 := (unhide HG2).trans hg3
  clear HG2 hcase HR2
  have hh2 : w3.heap[w.heap.size]? = some (.cells zeroCells 25 (0, 0)) := (hg3.block w.heap.size hz1' (by simp; omega)).trans (unhide HX1)
  have HG2 : Hid (w.grownBy w3 (some rb)) := (unhide HM1).trans hg3
  have hz2 : w.heap.size < w3.heap.size := lt_of_block hh2
  have f0 := (boxAt hh2 0).1; have f1 := (boxAt hh2 1).1; have f2 := (boxAt hh2 2).1; have f3 := (boxAt hh2 3).1; have f4 := (boxAt hh2 4).1
  have g0 := (boxAt hh2 0).2; have g1 := (boxAt hh2 1).2; have g2 := (boxAt hh2 2).2; have g3 := (boxAt hh2 3).2; have g4 := (boxAt hh2 4).2
  simp at f0 f1 f2 f3 f4
  clear hh2 hg3 HX1 HM1
  go_wp2_with fail
  refine bodyPost_ret (v := vaV 1 (wrap64 (n' : Int)) ⟨#[]⟩ none 0 0 none 0 0) (by simp [results, Tryd.results34, go_sem, f0, f1, f2, f3, f4]) rfl ⟨set5 (unhide HG2) (Nat.le_refl _) _ _ _ _ _, 1, wrap64 (n' : Int), ⟨#[]⟩, none, 0, 0, none, 0, 0, p', rfl, ?_⟩
  have hcase := unhide HC
  have hq := unhide HQ
  cases q with
  | none => exact ⟨by have := hcase.1; omega, hcase.2.keep (below5 (by omega) _ _ _ _ _)⟩
  | some q =>
    obtain ⟨n2, t⟩ := q
    obtain ⟨rfl, h1, h2, h3⟩ := hcase
    have hle := numR_le hq
    have hw := wrap_of n' hle
    rw [hw]
    exact ⟨VIn.flat ⟨by decide, by decide⟩ (i64_of n' hle) (by decide), h1, h2, h3.keep (below5 (by omega) _ _ _ _ _)⟩

set_option maxRecDepth 100000 in
set_option maxHeartbeats 4000000 in
theorem value_int_neg (d : Int) (D : Nat) (w : World) (rb : Nat) (A : Option Addr) (c : Nat) (l : List UInt8) (p : Nat) (b : UInt8) (h : RR w rb A c l p false) (hb : l[p]? = some b) (hbi : b.toNat = 105) (b2 : UInt8) (hb2 : l[p + 1]? = some b2) (hb45 : b2.toNat = 45) (q : Option (Nat × List UInt8)) (hq : numR 101 9223372036854775808 (l.drop (p + 2)) = q) :
    Calls Tryd.prog 34 #[.pointer (some ⟨rb, 0, none⟩), .int .i64 d] w (RVal rb A c l D (q.bind fun q => if q.1 = 0 then none else some (.mk 1 (-(q.1 : Int)) ⟨#[]⟩ [] [], q.2)) w) := by
  have hlt := h.lt
  have hl := h.2.2
  have hpl : p < l.length := (List.getElem?_eq_some_iff.1 hb).1
  have HF := hide (fun (W : World) (hW : RR W rb A c l p false) => next_some W rb A c l p false b hW hb)
  have hR0 := h.below ((Below.refl w.heap.size w).alloc (Nat.le_refl _) (.cells zeroCells 25))
  have HR0 := hide hR0
  have b105 : ((b.toNat : Int) == 105) = true := by simp; omega
  have hp0 : (0 : Int) ≤ (p : Int) := Int.natCast_nonneg _
  have hp1 : (p : Int) ≤ 2000 := by omega
  have hpl2 : p + 1 < l.length := (List.getElem?_eq_some_iff.1 hb2).1
  have HN := hide (fun (W : World) (hW : RR W rb A c l (p + 1) false) => next_some W rb A c l (p + 1) false b2 hW hb2)
  have HD := hide (fun (W : World) (hW : RR W rb A c l (p + 2) false) => number_ref 101 9223372036854775808 W rb A c l (p + 2) hW (by omega) (by decide) (by decide))
  rw [hq] at HD
  have HQ := hide hq
  have b45 : ((b2.toNat : Int) != 45) = false := by simp; omega
  have hp2 : (p : Int) + 1 ≤ 2001 := by omega
  clear hb hb2 hq
  clear h hR0
  go_enter Tryd.func34, Tryd.ntmps34
  go_wp2_with fail
  refine ((unhide HF) _ (unhide HR0)).mono ?_; rintro e1 w1 ⟨rfl, hb1⟩
  have hR1 := (unhide HR0).below hb1
  have hx1 := (hb1.block w.heap.size (by simp)).trans (heap_alloc_new _ _)
  have HM1 := hide (movedSet (World.grownBy.trans (World.grownBy_alloc w (.cells zeroCells 25) (some rb)) (belowGrown rb hb1)) 1 (.int .i64 ((p : Int) + 1)))
  have hz1 : w.heap.size < w1.heap.size := by have := hb1.size; simp at this; omega
  have hx1' : (w1.setCell ⟨rb, 1, none⟩ (.int .i64 ((p : Int) + 1))).heap[w.heap.size]? = some (.cells zeroCells 25 (0, 0)) := (Below.heap_setCell _ _ _ _ (by show w.heap.size ≠ rb; omega)).trans hx1
  have hz1' : w.heap.size < (w1.setCell ⟨rb, 1, none⟩ (.int .i64 ((p : Int) + 1))).heap.size := lt_of_block hx1'
  have HX1 := hide hx1'
  have hr1 := hR1.c1; have hr2 := hR1.c2; have hrf1 := hR1.free 1
  have HR1 := hide hR1.at1
  clear hb1 hR1 hx1 hx1'
  go_wp2_with fail
  refine ((unhide HN) _ (unhide HR1)).mono ?_; rintro e1 w2 ⟨rfl, hb2⟩
  have hR2 := (unhide HR1).below hb2
  have hk1 := hR2.c1; have hkf := hR2.free 1
  rw [show ((p + 1 : Nat) : Int) = (p : Int) + 1 by omega] at hk1
  have HR2 := hide hR2.at2
  have HG2 := hide (movedSet (belowGrown rb hb2) 1 (.int .i64 ((p : Int) + 1 + 1)))
  clear hb2 HN HR1 HF HR0 hR2
  go_wp2_with fail
  refine ((unhide HD) _ (unhide HR2)).mono ?_; rintro e1 w3 ⟨hg3, n', p', rfl, hn', hcase⟩
  have HC := hide hcase; have hg3 := (unhide HG2).trans hg3
  clear HG2 hcase HR2
  have hh2 : w3.heap[w.heap.size]? = some (.cells zeroCells 25 (0, 0)) := (hg3.block w.heap.size hz1' (by simp; omega)).trans (unhide HX1)
  have HG2 : Hid (w.grownBy w3 (some rb)) := (unhide HM1).trans hg3
  have hz2 : w.heap.size < w3.heap.size := lt_of_block hh2
  have f0 := (boxAt hh2 0).1; have f1 := (boxAt hh2 1).1; have f2 := (boxAt hh2 2).1; have f3 := (boxAt hh2 3).1; have f4 := (boxAt hh2 4).1
  have g0 := (boxAt hh2 0).2; have g1 := (boxAt hh2 1).2; have g2 := (boxAt hh2 2).2; have g3 := (boxAt hh2 3).2; have g4 := (boxAt hh2 4).2
  simp at f0 f1 f2 f3 f4
  clear hh2 hg3 HX1 HM1
  have hany : ∃ bad, RR w3 rb A c l p' bad ∧ p' ≤ l.length + 1 := by
    have hcase := unhide HC
    cases q with
    | none => exact ⟨true, hcase.2, hcase.1⟩
    | some q => exact ⟨false, hcase.2.2.2, by have := hcase.2.1; omega⟩
  obtain ⟨bad, hra, hpa⟩ := hany
  have hk2 := hra.c2; have hkf2 := hra.free 2
  have HRA := hide hra
  clear hra hk1 hkf hr1 hr2 hrf1
  by_cases h0 : n' = 0
  · subst h0
    have hres : (q.bind fun q => if q.1 = 0 then none else some ((.mk 1 (-(q.1 : Int)) ⟨#[]⟩ [] [] : Va), q.2)) = none := by
      have hcase := unhide HC
      cases q with
      | none => rfl
      | some q =>
        obtain ⟨n2, t⟩ := q
        obtain ⟨rfl, _⟩ := hcase
        rfl
    have HNO := hide hres
    clear hres
    go_wp2_with fail
    rw [unhide HNO]
    refine bodyPost_ret (v := vaV 0 0 ⟨#[]⟩ none 0 0 none 0 0) (by simp [results, Tryd.results34, go_sem, f0, f1, f2, f3, f4]) rfl ⟨set5 (movedSet (unhide HG2) 2 (.bool true)) (Nat.le_refl _) _ _ _ _ _, 0, 0, ⟨#[]⟩, none, 0, 0, none, 0, 0, p', rfl, ?_⟩
    exact ⟨by omega, ((unhide HRA).mark true).keep (below5 (by omega) _ _ _ _ _)⟩
  · have h00 : ((n' : Int) == 0) = false := by simp; omega
    go_wp2_with fail
    refine bodyPost_ret (v := vaV 1 (wrap64 (wrap64 (-wrap64 ((n' : Int) - 1)) - 1)) ⟨#[]⟩ none 0 0 none 0 0) (by simp [results, Tryd.results34, go_sem, f0, f1, f2, f3, f4]) rfl ⟨set5 (unhide HG2) (Nat.le_refl _) _ _ _ _ _, 1, wrap64 (wrap64 (-wrap64 ((n' : Int) - 1)) - 1), ⟨#[]⟩, none, 0, 0, none, 0, 0, p', rfl, ?_⟩
    have hcase := unhide HC
    have hq := unhide HQ
    cases q with
    | none => exact ⟨by have := hcase.1; omega, hcase.2.keep (below5 (by omega) _ _ _ _ _)⟩
    | some q =>
      obtain ⟨n2, t⟩ := q
      obtain ⟨rfl, h1, h2, h3⟩ := hcase
      have hle := numR_le hq
      rw [neg_of n' hle h0, Option.bind_some, if_neg h0]
      exact ⟨VIn.flat ⟨by decide, by decide⟩ (i64_neg n' hle) (by decide), h1, h2, h3.keep (below5 (by omega) _ _ _ _ _)⟩
end Go.Proofs.YtclpbjdnollfcaaDoor
