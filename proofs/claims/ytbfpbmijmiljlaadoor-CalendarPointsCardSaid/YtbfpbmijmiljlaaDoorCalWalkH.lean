/- Contracts over the calendar's program, each for every input under its hypotheses: join. -/
import Derived.Test.YtbfpbmijmiljlaaDoorCalWalkG
import Derived.Laws.OwnMore
import Derived.Deep.RegionLaw
import Derived.RegionTactic
import Derived.ChangeAlike
import Derived.BigRegion
namespace Go.Proofs.YtbfpbmijmiljlaaDoor
set_option linter.unusedSimpArgs false
set_option linter.unusedVariables false
open Go.RowKit

theorem infoIv : (Tryd.prog.info? 34).map (fun i => (i.zero, i.size, i.bytes)) = some (some (.agg #[.int .i64 0, .int .i64 0]), 2, 16) := by kernel_rfl

/-- how a call that works on its own row ends -/
def Owns (B : Nat) (w : World) (l : List CalI.Iv) (e : Ending) (w' : World) : Prop := ∃ v', e = .returned v' ∧ OwnIv w' B v' l ∧ Below B w w'

theorem ownDrew {w : World} {B : Nat} {e : TypeId} {size : Nat} {v : Value} {n : Nat} {xs : List Value} (q : Nat) (h : w.ownsRow B e size v n xs) : (w.drewN q).ownsRow B e size v n xs := h
theorem ownNil {w : World} {B : Nat} {v : Value} (h : OwnIv w B v []) : w.ownsRow B 34 2 v 0 [] := h

theorem ownBelow {w w1 W : World} {B : Nat} {e : TypeId} {size : Nat} {v : Value} {n : Nat} {xs : List Value} (h : Below B W w) (hown : w.ownsRow B e size v n xs) (hg : w.grownBy w1 v.ownBlock) (hB : B ≤ w.heap.size) : Below B W w1 :=
  h.grown hg hB (fun k hk => (hown.lt k hk).1)
theorem twoCells {w : World} {g : Nat} {x y : Value} (h0 : w.cell? ⟨g, 0, none⟩ = some x) (h1 : w.cell? ⟨g, 1, none⟩ = some y) : ∀ (j : Nat) (u : Value), [x, y][j]? = some u → w.cell? ((⟨g, 0, none⟩ : Addr).add j) = some u := by
  intro j u hj
  match j, hj with
  | 0, hj => simp at hj; subst hj; exact h0
  | 1, hj => simp at hj; subst hj; exact h1
  | j + 2, hj => simp at hj
theorem twoOne (a b : Int) : ∀ u ∈ [Value.int .i64 a, Value.int .i64 b], u.oneCell' = true := by
  intro u hu
  simp at hu
  rcases hu with rfl | rfl <;> rfl

theorem join_nil (A : Option Addr) (c : Nat) (i1 i2 : Int) (w : World) (B : Nat) (hB : B ≤ w.heap.size) (h : OwnIv w B (.slice A 0 c) []) :
    Calls Tryd.prog 40 #[.slice A 0 c, ivV i1 i2] w (Owns B w [(i1, i2)]) := by
  obtain ⟨i0, hi, hz0, hz1, hz2⟩ := info_parts infoIv
  have H := hide h; clear h
  go_enter Tryd.func40, Tryd.ntmps40
  go_wp2
  go_quiet (fail)
  go_wp2_with (at_builtin; refine wpList_append_own _ rfl _ _ 35 rfl B 34 i0 (.agg #[.int .i64 0, .int .i64 0]) 2 16 Tryd.underlying35 hi hz0 hz1 hz2 rfl (by decide) _ _ _ rfl (ownDrew _ (((ownNil H.out).alloc _).alloc _)) ⟨w.heap.size + 1, 0, none⟩ 1 1 [.int .i64 i1, .int .i64 i2] rfl rfl ?c1 ?c2 ?c3 ?c4 ?c5 ?_)
  case c1 => exact twoCells (by go_simp) (by go_simp)
  case c2 => exact twoOne _ _
  case c3 => decide
  case c4 => decide
  case c5 => simp; omega
  intro v' w1 hown hgrow _
  have HO := hide hown; have HG := hide hgrow; clear hown hgrow
  go_wp2
  go_ret
  exact ⟨v', rfl, HO.out, ownBelow (belowDrewN _ (((Below.refl B w).alloc hB _).alloc (by simp; omega) _)) (ownDrew nq (((ownNil H.out).alloc _).alloc _)) HG.out (by simp; omega)⟩

theorem split_last (l : List CalI.Iv) (h : 0 < l.length) : ∃ r z, l = r ++ [z] := by
  induction l with
  | nil => simp at h
  | cons a r ih =>
    cases r with
    | nil => exact ⟨[], a, rfl⟩
    | cons b r =>
      obtain ⟨s, z, hs⟩ := ih (by simp)
      exact ⟨a :: s, z, by rw [hs]; rfl⟩

set_option maxHeartbeats 1000000 in
theorem join_app (c g m : Nat) (r : List CalI.Iv) (z1 z2 i1 i2 : Int) (w : World) (B : Nat) (hB : B ≤ w.heap.size) (hm : r.length = m) (hm2 : m ≤ 1000000)
    (hz : 0 ≤ z2 ∧ z2 ≤ 1048576) (hlt : z2 + 1 < i1)
    (h : OwnIv w B (.slice (some ⟨g, 0, none⟩) (m + 1) c) (r ++ [(z1, z2)])) (hc : w.cell? ⟨g, m * 2 + 1, none⟩ = some (.int .i64 z2)) :
    Calls Tryd.prog 40 #[.slice (some ⟨g, 0, none⟩) (m + 1) c, ivV i1 i2] w (Owns B w ((r ++ [(z1, z2)]) ++ [(i1, i2)])) := by
  obtain ⟨i0, hi, hz0, hz1, hz2⟩ := info_parts infoIv
  obtain ⟨hz3, hz4⟩ := hz
  have hown : w.ownsRow B 34 2 (.slice (some ⟨g, 0, none⟩) (m + 1) c) (m + 1) (flat (r ++ [(z1, z2)])) := by
    have := h
    unfold OwnIv at this
    simpa [hm] using this
  have H := hide hown; have HM := Lib.hid hm; clear h hm hown
  have hd : decide (z2 + 1 < i1) = true := by simpa using hlt
  have hgw : g < w.heap.size := World.block_lt_of_cell? w _ hc
  have hm0 : decide ((m : Int) < 0) = false := by simp
  have hi1 : (0 : Int) ≤ m := by omega
  have hi2 : (m : Int) < m + 1 := by omega
  go_enter Tryd.func40, Tryd.ntmps40
  go_wp2
  go_quiet (fail)
  go_wp2_with (at_builtin; refine wpList_append_own _ rfl _ _ 35 rfl B 34 i0 (.agg #[.int .i64 0, .int .i64 0]) 2 16 Tryd.underlying35 hi hz0 hz1 hz2 rfl (by decide) _ _ _ rfl (ownDrew _ ((H.out.alloc _).alloc _)) ⟨w.heap.size + 1, 0, none⟩ 1 1 [.int .i64 i1, .int .i64 i2] rfl rfl ?c1 ?c2 ?c3 ?c4 ?c5 ?_)
  case c1 => exact twoCells (by go_simp) (by go_simp)
  case c2 => exact twoOne _ _
  case c3 => unfold maxLen; omega
  case c4 => omega
  case c5 => simp; omega
  intro v' w1 hown hgrow _
  have HO := hide hown; have HG := hide hgrow; clear hown hgrow
  go_wp2
  go_ret
  refine ⟨v', rfl, ?_, ownBelow (belowDrewN _ (((Below.refl B w).alloc hB _).alloc (by simp; omega) _)) (ownDrew nq ((H.out.alloc _).alloc _)) HG.out (by simp; omega)⟩
  have := HO.out
  have hlen : ((r ++ [(z1, z2)]) ++ [(i1, i2)]).length = m + 1 + 1 := by simp [HM.out]
  unfold OwnIv
  rw [flat_append, hlen]
  exact this

theorem flat_set (r : List CalI.Iv) (z1 z2 x : Int) : (flat (r ++ [(z1, z2)])).set (r.length * 2 + 1) (.int .i64 x) = flat (r ++ [(z1, x)]) := by
  induction r with
  | nil => rfl
  | cons a r ih =>
    have e : (a :: r).length * 2 + 1 = (r.length * 2 + 1) + 1 + 1 := by simp; omega
    rw [e]
    simp only [flat, List.cons_append, List.flatMap_cons, List.nil_append, List.set_cons_succ] at ih ⊢
    rw [ih]

set_option maxHeartbeats 1000000 in
theorem join_put (c g m : Nat) (r : List CalI.Iv) (z1 z2 i1 i2 : Int) (w : World) (B : Nat) (hB : B ≤ w.heap.size) (hgB : B ≤ g) (hm : r.length = m) (hm2 : m ≤ 1000000)
    (hz : 0 ≤ z2 ∧ z2 ≤ 1048576) (hlt : ¬ z2 + 1 < i1)
    (h : OwnIv w B (.slice (some ⟨g, 0, none⟩) (m + 1) c) (r ++ [(z1, z2)])) (hc : w.cell? ⟨g, m * 2 + 1, none⟩ = some (.int .i64 z2)) (hf : w.frozen? ⟨g, m * 2 + 1, none⟩ = false) :
    Calls Tryd.prog 40 #[.slice (some ⟨g, 0, none⟩) (m + 1) c, ivV i1 i2] w (Owns B w (r ++ [(z1, if z2 < i2 then i2 else z2)])) := by
  obtain ⟨hz3, hz4⟩ := hz
  have hown : w.ownsRow B 34 2 (.slice (some ⟨g, 0, none⟩) (m + 1) c) (m + 1) (flat (r ++ [(z1, z2)])) := by
    have := h
    unfold OwnIv at this
    simpa [hm] using this
  have H := hide hown; have HM := Lib.hid hm; clear h hm hown
  have hd : decide (z2 + 1 < i1) = false := by simpa using hlt
  have hgw : g < w.heap.size := World.block_lt_of_cell? w _ hc
  have hm0 : decide ((m : Int) < 0) = false := by simp
  have hi1 : (0 : Int) ≤ m := by omega
  have hi2 : (m : Int) < m + 1 := by omega
  by_cases hx : z2 < i2
  · rw [if_pos hx]
    go_enter Tryd.func40, Tryd.ntmps40
    go_wp2
    go_quiet (fail)
    go_wp2
    go_region
    all_goals go_wp2
    go_ret
    refine ⟨_, rfl, ?_, ?_⟩
    · have h1 := ((ownDrew (nq + 1) (H.out.alloc (.cells #[.int .i64 i1, .int .i64 i2] 34))).stored (m * 2 + 1) (.int .i64 i2)).1
      have hm := HM.out
      rw [← hm, flat_set] at h1
      unfold OwnIv
      rw [show (r ++ [(z1, i2)]).length = m + 1 by simp [hm]]
      rw [hm] at h1
      exact h1
    · exact (belowDrewN _ ((Below.refl B w).alloc hB _)).setCell (p := ⟨g, m * 2 + 1, none⟩) hgB _
  · rw [if_neg hx]
    go_enter Tryd.func40, Tryd.ntmps40
    go_wp2
    go_quiet (fail)
    go_wp2
    go_region
    all_goals go_wp2
    go_ret
    refine ⟨_, rfl, ?_, ?_⟩
    · have h1 := ((ownDrew (nq + 1) (H.out.alloc (.cells #[.int .i64 i1, .int .i64 i2] 34))).stored (m * 2 + 1) (.int .i64 z2)).1
      have hm := HM.out
      rw [← hm, flat_set] at h1
      unfold OwnIv
      rw [show (r ++ [(z1, z2)]).length = m + 1 by simp [hm]]
      rw [hm] at h1
      exact h1
    · exact (belowDrewN _ ((Below.refl B w).alloc hB _)).setCell (p := ⟨g, m * 2 + 1, none⟩) hgB _

theorem join_any (v : Value) (l : List CalI.Iv) (i1 i2 : Int) (w : World) (B : Nat) (hB : B ≤ w.heap.size) (hm : l.length ≤ 1000000) (hb : CalI.Bd l) (h : OwnIv w B v l) :
    Calls Tryd.prog 40 #[v, ivV i1 i2] w (Owns B w (CalI.joinS l (i1, i2))) := by
  by_cases h0 : 0 < l.length
  · obtain ⟨r, ⟨z1, z2⟩, rfl⟩ := split_last l h0
    have hj : CalI.joinS (r ++ [(z1, z2)]) (i1, i2) = if z2 + 1 < i1 then (r ++ [(z1, z2)]) ++ [(i1, i2)] else r ++ [(z1, if z2 < i2 then i2 else z2)] := by
      simp [CalI.joinS]
    have hlen : (r ++ [(z1, z2)]).length = r.length + 1 := by simp
    have hz := hb (z1, z2) (by simp)
    have hget : (flat (r ++ [(z1, z2)]))[r.length * 2 + 1]? = some (.int .i64 z2) := (flat_get _ r.length (z1, z2) (by simp)).2
    rcases h.2 with ⟨_, hn⟩ | ⟨g, cap, cur, rfl, hg, _⟩
    · omega
    · have hown := h
      unfold OwnIv at hown
      have hc := hown.cellAt (r.length * 2 + 1) (by omega)
      have hf := hown.frozenAt (r.length * 2 + 1)
      rw [hget] at hc
      rw [hj, hlen]
      rw [hlen] at h
      split
      · rename_i hlt
        exact join_app cap g r.length r z1 z2 i1 i2 w B hB rfl (by omega) ⟨hz.2.2.1, hz.2.2.2⟩ hlt h hc
      · rename_i hlt
        exact join_put cap g r.length r z1 z2 i1 i2 w B hB hg rfl (by omega) ⟨hz.2.2.1, hz.2.2.2⟩ hlt h hc hf
  · have e : l = [] := List.length_eq_zero_iff.1 (by omega)
    subst e
    obtain ⟨A, c, rfl, _, _⟩ := h.form
    exact join_nil A c i1 i2 w B hB h

end Go.Proofs.YtbfpbmijmiljlaaDoor
