/- Contracts over the calendar's program, each for every input under its hypotheses: add and Union of the reference. -/
import Derived.Test.YtbfpbmijmiljlaaDoorCalWalkK
import Derived.Test.YtbfpbmijmiljlaaDoorCalIv2
import Derived.RegionTactic
import Derived.ChangeAlike
import Derived.BigRegion
namespace Go.Proofs.YtbfpbmijmiljlaaDoor
set_option linter.unusedSimpArgs false
set_option linter.unusedVariables false
open Go.RowKit

/-- what add's loop keeps -/
def AddInv (w : World) (l : List CalI.Iv) (i : CalI.Iv) (k : Nat) (v d : Value) (wr : World) : Prop :=
  ∃ (out : List CalI.Iv) (j1 j2 : Int) (dn : Bool), (l.take k).foldl CalI.addStep ([], i, false) = (out, (j1, j2), dn) ∧ OwnIv wr (w.heap.size + 1) v out ∧ d = .bool dn ∧
    wr.cell? ⟨w.heap.size, 0, none⟩ = some (.int .i64 j1) ∧ wr.cell? ⟨w.heap.size, 1, none⟩ = some (.int .i64 j2) ∧ wr.frozen? ⟨w.heap.size, 0, none⟩ = false ∧ wr.frozen? ⟨w.heap.size, 1, none⟩ = false ∧
    w.heap.size + 1 ≤ wr.heap.size ∧ Below w.heap.size w wr


theorem ownBelow2 {w w1 W : World} {B B' : Nat} {e : TypeId} {size : Nat} {v : Value} {n : Nat} {xs : List Value} (h : Below B' W w) (hown : w.ownsRow B e size v n xs) (hg : w.grownBy w1 v.ownBlock) (hBB : B' ≤ B) (hB : B' ≤ w.heap.size) : Below B' W w1 :=
  h.grown hg hB (fun k hk => Nat.le_trans hBB (hown.lt k hk).1)
theorem keepI {wr w1 : World} {v : Value} {s n : Nat} {xs : List Value} (hown : wr.ownsRow (s + 1) 34 2 v n xs) (hg : wr.grownBy w1 v.ownBlock) (hs : s < wr.heap.size) :
    w1.cell? ⟨s, 0, none⟩ = wr.cell? ⟨s, 0, none⟩ ∧ w1.cell? ⟨s, 1, none⟩ = wr.cell? ⟨s, 1, none⟩ ∧ w1.frozen? ⟨s, 0, none⟩ = wr.frozen? ⟨s, 0, none⟩ ∧ w1.frozen? ⟨s, 1, none⟩ = wr.frozen? ⟨s, 1, none⟩ := by
  have hb := hg.block s hs (fun e => by have := (hown.lt s e.symm).1; omega)
  exact ⟨World.cell?_of_block hb, World.cell?_of_block hb, World.frozen?_of_block hb, World.frozen?_of_block hb⟩
theorem keepOld {wr w1 : World} {v x : Value} {s n : Nat} {a : Addr} {xs : List Value} (hown : wr.ownsRow (s + 1) 34 2 v n xs) (hg : wr.grownBy w1 v.ownBlock) (hs : a.block < s + 1) (hs2 : a.block < wr.heap.size) (h : wr.cell? a = some x) : w1.cell? a = some x :=
  (World.cell?_of_block (hg.block a.block hs2 (fun e => by have := (hown.lt a.block e.symm).1; omega))).trans h
theorem ownMono {wr : World} {B B' : Nat} {v : Value} {n : Nat} {xs : List Value} (h : wr.ownsRow B' 34 2 v n xs) (hB : B ≤ B') : wr.ownsRow B 34 2 v n xs := by
  refine ⟨h.1, ?_⟩
  rcases h.2 with h | ⟨g, cap, cur, hv, hg, rest⟩
  · exact .inl h
  · exact .inr ⟨g, cap, cur, hv, Nat.le_trans hB hg, rest⟩
theorem fold_len2 (l : List CalI.Iv) : ∀ s : CalI.St, (l.foldl CalI.addStep s).1.length ≤ s.1.length + 2 * l.length := by
  induction l with
  | nil => intro s; simp
  | cons x l ih => intro s; have := ih (CalI.addStep s x); have := CalI.addStep_len s x; simp only [List.foldl_cons, List.length_cons]; omega
theorem fold_bd2 (l : List CalI.Iv) : ∀ s : CalI.St, CalI.Bd s.1 → CalI.Bd [s.2.1] → CalI.Bd l → CalI.Bd (l.foldl CalI.addStep s).1 ∧ CalI.Bd [(l.foldl CalI.addStep s).2.1] := by
  induction l with
  | nil => intro s h1 h2 _; exact ⟨h1, h2⟩
  | cons x l ih =>
    intro s h1 h2 h3
    have := CalI.addStep_bd h1 h2 (x := x) (fun z hz => h3 z (by simp at hz; simp [hz]))
    exact ih _ this.1 this.2 (fun z hz => h3 z (List.mem_cons_of_mem _ hz))
set_option maxHeartbeats 8000000 in
theorem add_rows (b off c n : Nat) (l : List CalI.Iv) (i1 i2 : Int) (w : World) (hl : l.length = n) (hn : n ≤ 100000) (hbd : CalI.Bd l) (hib : CalI.Bd [(i1, i2)]) (hbw : 0 < n → b < w.heap.size)
    (h : ∀ k x, l[k]? = some x → w.cell? ⟨b, off + k * 2, none⟩ = some (.int .i64 x.1) ∧ w.cell? ⟨b, off + k * 2 + 1, none⟩ = some (.int .i64 x.2)) :
    Calls Tryd.prog 41 #[.slice (some ⟨b, off, none⟩) n c, ivV i1 i2] w (Owns w.heap.size w (CalI.addS l (i1, i2))) := by
  obtain ⟨i0, hi, hz0, hz1, hz2⟩ := info_parts infoIv
  have HL := Lib.hid hl; have H := hide h; have HBD := hide hbd; have HIB := hide hib; clear hl h hbd hib
  go_enter Tryd.func41, Tryd.ntmps41
  go_wp2
  go_loopw [5, 6, 7] (fun v d i wr => ∃ k : Nat, k ≤ n ∧ i = .int .i64 k ∧ AddInv w l (i1, i2) k v d wr) (fun _ _ i _ => n - (intOf i).toNat)
  case atStart =>
    refine ⟨0, Nat.zero_le _, rfl, [], i1, i2, false, rfl, ?_, rfl, by go_simp, by go_simp, by go_simp, by go_simp, by first | (simp; done) | omega | go_simp, by go_grown⟩
    have hm := World.ownsRow_made (base := w.heap.size + 1) (size := 2) (e := 34) (w.alloc (.cells #[.int .i64 i1, .int .i64 i2] 34)) #[] 0 (by simp) (by decide) rfl
    simpa [OwnIv, flat] using hm
  case round =>
    obtain ⟨k, hk, rfl, hinv⟩ := hrel
    obtain ⟨out, j1, j2, dn, hfold, hown, rfl, hj1, hj2, hf1, hf2, hsz, hb⟩ := hinv
    have hol := fold_len2 (l.take k) ([], (i1, i2), false)
    have hbj := (fold_bd2 (l.take k) ([], (i1, i2), false) (fun x hx => by cases hx) (unhide HIB) ((unhide HBD).take k)).2 (j1, j2) (by rw [hfold]; simp)
    rw [hfold] at hol
    have hlk : (l.take k).length ≤ k := List.length_take_le _ _
    simp only [List.length_nil, Nat.zero_add] at hol hbj
    have HO : Hid (wr.ownsRow (w.heap.size + 1) 34 2 u5 out.length (flat out)) := hown
    have HF := Lib.hid hfold; clear hfold hown
    have hsz2 : w.heap.size < wr.heap.size := by omega
    have hbr : 0 < n → b < wr.heap.size + 1 := fun h => by have := hbw h; omega
    by_cases hlt : k < n
    · obtain ⟨⟨x1, x2⟩, hx⟩ : ∃ x, l[k]? = some x := ⟨_, List.getElem?_eq_getElem (by rw [HL.out]; exact hlt)⟩
      obtain ⟨c0, c1⟩ := (unhide H) k _ hx
      have hxb := (unhide HBD) (x1, x2) (List.mem_of_getElem? hx)
      have HX := Lib.hid hx; clear hx
      simp only at c0 c1 hxb
      rw [← hb.cell (p := ⟨b, off + k * 2, none⟩) (hbw (by omega))] at c0
      rw [← hb.cell (p := ⟨b, off + k * 2 + 1, none⟩) (hbw (by omega))] at c1
      obtain ⟨hxb1, hxb2, hxb3, hxb4⟩ := hxb
      obtain ⟨hjb1, hjb2, hjb3, hjb4⟩ := hbj
      by_cases h1 : x2 + 1 < j1
      · have d1 : decide (x2 + 1 < j1) = true := by simpa using h1
        go_wp2_with fail
        go_quiet (fail)
        go_wp2_with (at_builtin; refine wpList_append_own _ rfl _ _ 35 rfl (w.heap.size + 1) 34 i0 (.agg #[.int .i64 0, .int .i64 0]) 2 16 Tryd.underlying35 hi hz0 hz1 hz2 rfl (by decide) _ _ _ rfl (World.ownsRow.alloc (ownDrew _ (unhide HO)) _) ⟨_, 0, none⟩ 1 1 [.int .i64 x1, .int .i64 x2] rfl rfl ?c1 ?c2 ?c3 ?c4 ?c5 ?_)
        case c1 => exact twoCells (show (wr.alloc _).cell? _ = _ from by go_simp) (show (wr.alloc _).cell? _ = _ from by go_simp)
        case c2 => exact twoOne _ _
        case c3 => unfold maxLen; omega
        case c4 => omega
        case c5 => simp; omega
        intro v' w1 hown hgrow _
        obtain ⟨ki1, ki2, ki3, ki4⟩ := keepI (World.ownsRow.alloc (ownDrew _ (unhide HO)) _) hgrow (by simp; omega)
        have HO1 := hide hown; have HG1 := hide hgrow; clear hown hgrow
        go_wp2_with fail
        go_roundw
        case rel =>
          refine ⟨k + 1, by omega, by go_num, out ++ [(x1, x2)], j1, j2, dn, ?_, ?_, rfl, ki1.trans (show (wr.alloc _).cell? _ = _ from by go_simp), ki2.trans (show (wr.alloc _).cell? _ = _ from by go_simp), ki3.trans (show (wr.alloc _).frozen? _ = _ from by go_simp), ki4.trans (show (wr.alloc _).frozen? _ = _ from by go_simp), ?_, ?_⟩
          · rw [List.take_add_one, HX.out]
            simp only [Option.toList_some, List.foldl_append, List.foldl_cons, List.foldl_nil]
            rw [HF.out]
            simp [CalI.addStep, h1]
          · have := unhide HO1
            unfold OwnIv
            rw [flat_append, List.length_append]
            exact this
          · have := (unhide HG1).size; simp at this; omega
          · exact ownBelow2 ((belowDrewN _ hb).alloc (by simp; omega) _) (World.ownsRow.alloc (ownDrew _ (unhide HO)) _) (unhide HG1) (by omega) (by simp; omega)
        case measure => simp [intOf]; omega
      · have d1 : decide (x2 + 1 < j1) = false := by simpa using h1
        by_cases h2 : j2 + 1 < x1
        · have d2 : decide (j2 + 1 < x1) = true := by simpa using h2
          cases dn
          · go_wp2_with fail
            go_quiet (fail)
            go_wp2_with fail
            go_quiet (fail)
            go_wp2_with (at_builtin; refine wpList_append_own _ rfl _ _ 35 rfl (w.heap.size + 1) 34 i0 (.agg #[.int .i64 0, .int .i64 0]) 2 16 Tryd.underlying35 hi hz0 hz1 hz2 rfl (by decide) _ _ _ rfl (World.ownsRow.alloc (ownDrew _ (unhide HO)) _) ⟨_, 0, none⟩ 1 1 [.int .i64 j1, .int .i64 j2] rfl rfl ?c1 ?c2 ?c3 ?c4 ?c5 ?_)
            case c1 => exact twoCells (show (wr.alloc _).cell? _ = _ from by go_simp) (show (wr.alloc _).cell? _ = _ from by go_simp)
            case c2 => exact twoOne _ _
            case c3 => unfold maxLen; omega
            case c4 => omega
            case c5 => simp; omega
            intro v1 w1 hown hgrow _
            obtain ⟨ki1, ki2, ki3, ki4⟩ := keepI (World.ownsRow.alloc (ownDrew _ (unhide HO)) _) hgrow (by simp; omega)
            have hl0 : w1.cell? ⟨b, off + k * 2, none⟩ = some (.int .i64 x1) := keepOld (World.ownsRow.alloc (ownDrew _ (unhide HO)) _) hgrow (show b < w.heap.size + 1 from by have := hbw (by omega); omega) (show b < ((wr.drewN _).alloc _).heap.size from by rw [World.size_alloc]; exact hbr (by omega)) (show (wr.alloc _).cell? _ = _ from Lib.cell?_alloc_some _ c0)
            have hl1 : w1.cell? ⟨b, off + k * 2 + 1, none⟩ = some (.int .i64 x2) := keepOld (World.ownsRow.alloc (ownDrew _ (unhide HO)) _) hgrow (show b < w.heap.size + 1 from by have := hbw (by omega); omega) (show b < ((wr.drewN _).alloc _).heap.size from by rw [World.size_alloc]; exact hbr (by omega)) (show (wr.alloc _).cell? _ = _ from Lib.cell?_alloc_some _ c1)
            replace ki1 := ki1.trans (show (wr.alloc _).cell? _ = some (.int .i64 j1) from by go_simp)
            replace ki2 := ki2.trans (show (wr.alloc _).cell? _ = some (.int .i64 j2) from by go_simp)
            replace ki3 := ki3.trans (show (wr.alloc _).frozen? _ = false from by go_simp)
            replace ki4 := ki4.trans (show (wr.alloc _).frozen? _ = false from by go_simp)
            have hsz3 : w.heap.size < w1.heap.size := by have := hgrow.size; simp at this; omega
            have HO1 := hide hown; have HG1 := hide hgrow; clear hown hgrow c0 c1
            go_wp2_with (at_builtin; refine wpList_append_own _ rfl _ _ 35 rfl (w.heap.size + 1) 34 i0 (.agg #[.int .i64 0, .int .i64 0]) 2 16 Tryd.underlying35 hi hz0 hz1 hz2 rfl (by decide) _ _ _ rfl (World.ownsRow.alloc (unhide HO1) _) ⟨_, 0, none⟩ 1 1 [.int .i64 x1, .int .i64 x2] rfl rfl ?c1 ?c2 ?c3 ?c4 ?c5 ?_)
            case c1 => exact twoCells (by go_simp) (by go_simp)
            case c2 => exact twoOne _ _
            case c3 => unfold maxLen; omega
            case c4 => omega
            case c5 => simp; omega
            intro v2 w2 hown hgrow _
            obtain ⟨kj1, kj2, kj3, kj4⟩ := keepI (World.ownsRow.alloc (unhide HO1) _) hgrow (by simp; omega)
            have HO2 := hide hown; have HG2 := hide hgrow; clear hown hgrow
            have hB1 : Below w.heap.size w w1 := ownBelow2 ((belowDrewN _ hb).alloc (by simp; omega) _) (World.ownsRow.alloc (ownDrew _ (unhide HO)) _) (unhide HG1) (by omega) (by simp; omega)
            have HB1 := hide hB1; clear hB1
            go_wp2_with fail
            go_roundw
            case rel =>
              refine ⟨k + 1, by omega, by go_num, out ++ [(j1, j2)] ++ [(x1, x2)], j1, j2, true, ?_, ?_, rfl, kj1.trans (by go_simp), kj2.trans (by go_simp), kj3.trans (by go_simp), kj4.trans (by go_simp), ?_, ?_⟩
              · rw [List.take_add_one, HX.out]
                simp only [Option.toList_some, List.foldl_append, List.foldl_cons, List.foldl_nil]
                rw [HF.out]
                simp [CalI.addStep, h1, h2]
              · have := unhide HO2
                unfold OwnIv
                have e : flat (out ++ [(j1, j2)] ++ [(x1, x2)]) = flat out ++ [.int .i64 j1, .int .i64 j2, .int .i64 x1, .int .i64 x2] := by simp [flat]
                rw [e, List.length_append, List.length_append]
                exact this
              · have := (unhide HG2).size; simp at this; omega
              · exact ownBelow2 ((unhide HB1).alloc (by omega) _) (World.ownsRow.alloc (unhide HO1) _) (unhide HG2) (by omega) (by simp; omega)
            case measure => simp [intOf]; omega
          · go_wp2_with fail
            go_quiet (fail)
            go_wp2_with fail
            go_quiet (fail)
            go_wp2_with (at_builtin; refine wpList_append_own _ rfl _ _ 35 rfl (w.heap.size + 1) 34 i0 (.agg #[.int .i64 0, .int .i64 0]) 2 16 Tryd.underlying35 hi hz0 hz1 hz2 rfl (by decide) _ _ _ rfl (World.ownsRow.alloc (ownDrew _ (unhide HO)) _) ⟨_, 0, none⟩ 1 1 [.int .i64 x1, .int .i64 x2] rfl rfl ?c1 ?c2 ?c3 ?c4 ?c5 ?_)
            case c1 => exact twoCells (show (wr.alloc _).cell? _ = _ from by go_simp) (show (wr.alloc _).cell? _ = _ from by go_simp)
            case c2 => exact twoOne _ _
            case c3 => unfold maxLen; omega
            case c4 => omega
            case c5 => simp; omega
            intro v1 w1 hown hgrow _
            obtain ⟨ki1, ki2, ki3, ki4⟩ := keepI (World.ownsRow.alloc (ownDrew _ (unhide HO)) _) hgrow (by simp; omega)
            have HO1 := hide hown; have HG1 := hide hgrow; clear hown hgrow
            go_wp2_with fail
            go_roundw
            case rel =>
              refine ⟨k + 1, by omega, by go_num, out ++ [(x1, x2)], j1, j2, true, ?_, ?_, rfl, ki1.trans (show (wr.alloc _).cell? _ = _ from by go_simp), ki2.trans (show (wr.alloc _).cell? _ = _ from by go_simp), ki3.trans (show (wr.alloc _).frozen? _ = _ from by go_simp), ki4.trans (show (wr.alloc _).frozen? _ = _ from by go_simp), ?_, ?_⟩
              · rw [List.take_add_one, HX.out]
                simp only [Option.toList_some, List.foldl_append, List.foldl_cons, List.foldl_nil]
                rw [HF.out]
                simp [CalI.addStep, h1, h2]
              · have := unhide HO1
                unfold OwnIv
                rw [flat_append, List.length_append]
                exact this
              · have := (unhide HG1).size; simp at this; omega
              · exact ownBelow2 ((belowDrewN _ hb).alloc (by simp; omega) _) (World.ownsRow.alloc (ownDrew _ (unhide HO)) _) (unhide HG1) (by omega) (by simp; omega)
            case measure => simp [intOf]; omega
        · have d2 : decide (j2 + 1 < x1) = false := by simpa using h2
          go_wp2_with fail
          go_quiet (fail)
          go_wp2_with fail
          go_quiet (fail)
          go_wp2_with fail
          go_region
          all_goals go_wp2_with fail
          go_roundw
          case rel =>
            refine ⟨k + 1, by omega, by go_num, out, min j1 x1, max j2 x2, dn, ?_, ?_, rfl, by go_simp, by go_simp, by go_simp, by go_simp, ?_, ?_⟩
            · rw [List.take_add_one, HX.out]
              simp only [Option.toList_some, List.foldl_append, List.foldl_cons, List.foldl_nil]
              rw [HF.out]
              simp only [CalI.addStep]
              rw [if_neg (show ¬ x2 + 1 < j1 by omega), if_neg (show ¬ j2 + 1 < x1 by omega)]
              rw [show (if x1 < j1 then x1 else j1) = min j1 x1 by split <;> omega, show (if j2 < x2 then x2 else j2) = max j2 x2 by split <;> omega]
            · exact ownsRow_setCell_below (ownsRow_setCell_below (ownDrew _ (unhide HO)) (a := ⟨w.heap.size, 0, none⟩) (by simp) _) (a := ⟨w.heap.size, 1, none⟩) (by simp) _
            · simp [World.setCell]; omega
            · exact ((belowDrewN _ hb).setCell (p := ⟨w.heap.size, 0, none⟩) (Nat.le_refl _) _).setCell (p := ⟨w.heap.size, 1, none⟩) (Nat.le_refl _) _
          case measure => simp [intOf]; omega
    · have hkn : k = n := by omega
      have HK := Lib.hid hkn; clear hkn
      have hS : CalI.addS l (i1, i2) = CalI.addFin (out, (j1, j2), dn) := by
        unfold CalI.addS
        rw [← HF.out, HK.out, List.take_of_length_le (by rw [HL.out]; exact Nat.le_refl _)]
      have HS := Lib.hid hS; clear hS
      cases dn
      · go_wp2_with (at_builtin; refine wpList_append_own _ rfl _ _ 35 rfl (w.heap.size + 1) 34 i0 (.agg #[.int .i64 0, .int .i64 0]) 2 16 Tryd.underlying35 hi hz0 hz1 hz2 rfl (by decide) _ _ _ rfl (World.ownsRow.alloc ((unhide HO)) _) ⟨_, 0, none⟩ 1 1 [.int .i64 j1, .int .i64 j2] rfl rfl ?c1 ?c2 ?c3 ?c4 ?c5 ?_)
        case c1 => exact twoCells (by go_simp) (by go_simp)
        case c2 => exact twoOne _ _
        case c3 => unfold maxLen; omega
        case c4 => omega
        case c5 => simp; omega
        intro v1 w1 hown hgrow _
        have HO1 := hide hown; have HG1 := hide hgrow; clear hown hgrow
        go_wp2_with fail
        go_ret
        refine ⟨v1, rfl, ?_, ownBelow2 (hb.alloc (by omega) _) (World.ownsRow.alloc (unhide HO) _) (unhide HG1) (by omega) (by simp; omega)⟩
        rw [HS.out]
        have := ownMono (unhide HO1) (Nat.le_succ _)
        unfold OwnIv
        simp only [CalI.addFin, Bool.false_eq_true, if_false]
        rw [flat_append, List.length_append]
        exact this
      · go_wp2_with fail
        go_ret
        refine ⟨_, rfl, ?_, hb⟩
        rw [HS.out]
        exact ownMono (unhide HO) (Nat.le_succ _)

end Go.Proofs.YtbfpbmijmiljlaaDoor
