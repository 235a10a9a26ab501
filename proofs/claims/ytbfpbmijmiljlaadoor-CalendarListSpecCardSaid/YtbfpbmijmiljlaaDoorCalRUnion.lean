/- Contracts over the calendar's program, each for every input under its hypotheses: Union of the reference. -/
import Derived.Test.YtbfpbmijmiljlaaDoorCalAdd
namespace Go.Proofs.YtbfpbmijmiljlaaDoor
set_option linter.unusedSimpArgs false
set_option linter.unusedVariables false
open Go.RowKit

theorem fin_step (s : CalI.St) (x : CalI.Iv) : (CalI.addFin (CalI.addStep s x)).length ≤ (CalI.addFin s).length + 1 := by
  unfold CalI.addStep CalI.addFin
  split
  · cases hs : s.2.2 <;> simp [hs]
  · split
    · cases hs : s.2.2 <;> simp
    · cases hs : s.2.2 <;> simp [hs]
theorem addS_len (l : List CalI.Iv) (i : CalI.Iv) : (CalI.addS l i).length ≤ l.length + 1 ∧ 1 ≤ (CalI.addS l i).length := by
  have key : ∀ (l : List CalI.Iv) (s : CalI.St), (CalI.addFin (l.foldl CalI.addStep s)).length ≤ (CalI.addFin s).length + l.length := by
    intro l
    induction l with
    | nil => intro s; simp
    | cons x l ih => intro s; have := ih (CalI.addStep s x); have := fin_step s x; simp only [List.foldl_cons, List.length_cons]; omega
  have key2 : ∀ (l : List CalI.Iv) (s : CalI.St), 1 ≤ (CalI.addFin s).length → 1 ≤ (CalI.addFin (l.foldl CalI.addStep s)).length := by
    intro l
    induction l with
    | nil => intro s h; exact h
    | cons x l ih =>
      intro s h
      refine ih _ ?_
      unfold CalI.addStep CalI.addFin at *
      split
      · cases hs : s.2.2 <;> simp [hs]
      · split
        · simp
        · cases hs : s.2.2 <;> simp [hs] at h ⊢
          exact h
  have h := key l ([], i, false)
  have h2 := key2 l ([], i, false) (by simp [CalI.addFin])
  rw [show (CalI.addFin ([], i, false)).length = 1 from rfl] at h
  exact ⟨by unfold CalI.addS; omega, h2⟩
theorem addS_bd {l : List CalI.Iv} {i : CalI.Iv} (h : CalI.Bd l) (hi : CalI.Bd [i]) : CalI.Bd (CalI.addS l i) := by
  have := fold_bd2 l ([], i, false) (fun x hx => by cases hx) hi h
  unfold CalI.addS CalI.addFin
  split
  · exact this.1
  · intro x hx
    rcases List.mem_append.1 hx with hx | hx
    · exact this.1 x hx
    · exact this.2 x hx
theorem foldA_bd (l : List CalI.Iv) : ∀ a, CalI.Bd a → CalI.Bd l → CalI.Bd (l.foldl CalI.addS a) := by
  induction l with
  | nil => intro a h _; exact h
  | cons i l ih => intro a h hl; exact ih _ (addS_bd h (fun x hx => hl x (by simp at hx; simp [hx]))) (fun x hx => hl x (List.mem_cons_of_mem _ hx))
theorem foldA_len (l : List CalI.Iv) : ∀ a, (l.foldl CalI.addS a).length ≤ a.length + l.length := by
  induction l with
  | nil => intro a; simp
  | cons i l ih => intro a; have := ih (CalI.addS a i); have := addS_len a i; simp only [List.foldl_cons, List.length_cons]; omega

theorem add_any (g c : Nat) (l : List CalI.Iv) (i1 i2 : Int) (w : World) (hn : l.length ≤ 100000) (hbd : CalI.Bd l) (hib : CalI.Bd [(i1, i2)]) (h : IvAt w (some ⟨g, 0, none⟩) l) :
    Calls Tryd.prog 41 #[.slice (some ⟨g, 0, none⟩) l.length c, ivV i1 i2] w (Owns w.heap.size w (CalI.addS l (i1, i2))) := by
  refine add_rows g 0 c l.length l i1 i2 w rfl hn hbd hib (fun h0 => ?_) (fun k x hx => ?_)
  · obtain ⟨b, off, e, hb⟩ := h.lt (k := 0) h0
    injection e with e; injection e with e1 e2; subst e1; exact hb
  · obtain ⟨hk, rfl⟩ := List.getElem?_eq_some_iff.1 hx
    obtain ⟨b, off, e, h0, h1⟩ := h k hk
    injection e with e; injection e with e1 e2; subst e1 e2
    exact ⟨h0, h1⟩

set_option maxHeartbeats 2000000 in
/-- Union of the reference: over a row of n intervals, m of them valid from the first on -/
theorem refUnion_rows (b off c n m : Nat) (l : List CalI.Iv) (w : World) (hl : l.length = n) (hn : n ≤ 10000) (hbw : 0 < n → b < w.heap.size) (hm : m ≤ n) (hok : allOk (l.take m) = true) (hbad : m < n → ∃ x, l[m]? = some x ∧ ivOk x.1 x.2 = false)
    (h : ∀ k x, l[k]? = some x → w.cell? ⟨b, off + k * 2, none⟩ = some (.int .i64 x.1) ∧ w.cell? ⟨b, off + k * 2 + 1, none⟩ = some (.int .i64 x.2)) :
    Calls Tryd.prog 22 #[.slice (some ⟨b, off, none⟩) n c] w fun e w' =>
      (m < n → e = .returned (.tuple #[.slice none 0 0, .int .i64 10])) ∧ (m = n → ∃ g cc, e = .returned (.tuple #[.slice (some ⟨g, 0, none⟩) (l.foldl CalI.addS []).length cc, .int .i64 0]) ∧ IvAt w' (some ⟨g, 0, none⟩) (l.foldl CalI.addS [])) ∧ Below w.heap.size w w' := by
  have HL := Lib.hid hl; have H := hide h; have HO := hide hok; have HB := hide hbad; clear hl h hok hbad
  go_enter Tryd.func22, Tryd.ntmps22
  go_wp2
  go_loopw [4, 5] (fun v i wr => ∃ (k g cc : Nat), k ≤ m ∧ i = .int .i64 k ∧ v = .slice (some ⟨g, 0, none⟩) ((l.take k).foldl CalI.addS []).length cc ∧ IvAt wr (some ⟨g, 0, none⟩) ((l.take k).foldl CalI.addS []) ∧ Below w.heap.size w wr) (fun _ i _ => n - (intOf i).toNat)
  case atStart => exact ⟨0, w.heap.size, 0, Nat.zero_le _, rfl, rfl, IvAt.nil _ _, by go_grown⟩
  case round =>
    obtain ⟨k, g, cc, hk, rfl, rfl, hiv, hb⟩ := hrel
    have HIV := hide hiv; clear hiv
    by_cases hlt : k < n
    · obtain ⟨⟨x1, x2⟩, hx⟩ : ∃ x, l[k]? = some x := ⟨_, List.getElem?_eq_getElem (by rw [HL.out]; exact hlt)⟩
      obtain ⟨c0, c1⟩ := (unhide H) k _ hx
      have HX := Lib.hid hx
      simp only at c0 c1
      rw [← hb.cell (p := ⟨b, off + k * 2, none⟩) (hbw (by omega))] at c0
      rw [← hb.cell (p := ⟨b, off + k * 2 + 1, none⟩) (hbw (by omega))] at c1
      by_cases hkm : k < m
      · have hxo : ivOk x1 x2 = true := by
          have := unhide HO
          simp only [allOk, List.all_eq_true] at this
          exact this (x1, x2) (List.mem_of_getElem? (by rw [List.getElem?_take, if_pos hkm]; exact hx))
        have hE : ivE x1 x2 = 0 := ivE_t hxo
        have hxb := (ivOk_iff _ _).1 hxo
        clear hx hxo
        have hbd : CalI.Bd ((l.take k).foldl CalI.addS []) := foldA_bd _ [] (fun x hx => by cases hx) (fun x hx => (allOk_bd (unhide HO)).1 x (by
          have e : l.take k = (l.take m).take k := by rw [List.take_take, Nat.min_eq_left (by omega)]
          rw [e] at hx
          exact List.mem_of_mem_take hx))
        have hlen := foldA_len (l.take k) []
        have hlen2 : (l.take k).length ≤ k := List.length_take_le _ _
        simp only [List.length_nil, Nat.zero_add] at hlen
        have hadd := fun W (hW : IvAt W (some ⟨g, 0, none⟩) ((l.take k).foldl CalI.addS [])) => add_any g cc ((l.take k).foldl CalI.addS []) x1 x2 W (by omega) hbd (fun x hx => by simp at hx; subst hx; omega) hW
        have HADD := hide hadd; clear hadd hbd hlen hxb
        generalize hN : ((l.take k).foldl CalI.addS []).length = N at HADD ⊢
        have HN := Lib.hid hN; clear hN
        go_wp2_with fail
        refine (refCheck_any _ _ _).mono ?_; rintro e w1 ⟨rfl, hb1⟩
        have hb2 : Below w.heap.size w w1 := hb.trans (hb1.mono hb.size)
        have c0' : w1.cell? ⟨b, off + k * 2, none⟩ = some (.int .i64 x1) := by rw [hb1.cell (p := ⟨b, off + k * 2, none⟩) (by have := hbw (by omega); have := hb.size; simp; omega)]; exact c0
        have c1' : w1.cell? ⟨b, off + k * 2 + 1, none⟩ = some (.int .i64 x2) := by rw [hb1.cell (p := ⟨b, off + k * 2 + 1, none⟩) (by have := hbw (by omega); have := hb.size; simp; omega)]; exact c1
        have HIV1 := hide ((unhide HIV).below hb1)
        clear c0 c1
        go_wp2_with fail
        refine ((unhide HADD) w1 (unhide HIV1)).mono ?_; rintro e w2 ⟨v2, rfl, ho2, hb3⟩
        have HO2 := hide ho2; clear ho2
        go_wp2_with fail
        go_roundw
        case rel =>
          have hf : (l.take (k + 1)).foldl CalI.addS [] = CalI.addS ((l.take k).foldl CalI.addS []) (x1, x2) := by
            rw [List.take_add_one, HX.out]; simp
          rcases (unhide HO2).2 with ⟨_, h0⟩ | ⟨g', cap, cur, hv, _⟩
          · have := (addS_len ((l.take k).foldl CalI.addS []) (x1, x2)).2; omega
          · obtain ⟨A, c', hv2, hiv2, _⟩ := (unhide HO2).form
            rw [hv] at hv2
            injection hv2 with e1 e2 e3
            subst e1
            exact ⟨k + 1, g', cap, by omega, by go_num, by rw [hf, hv], by rw [hf]; exact hiv2, hb2.trans (hb3.mono hb2.size)⟩
        case measure => simp [intOf]; omega
      · obtain ⟨y, hy, hyo⟩ := (unhide HB) (by omega)
        have hkm2 : k = m := by omega
        have hE : ivE x1 x2 = 10 := by
          rw [hkm2] at hx
          rw [hx] at hy
          cases hy
          exact ivE_f hyo
        clear hx hy hyo hkm2
        go_wp2_with fail
        refine (refCheck_any _ _ _).mono ?_; rintro e w1 ⟨rfl, hb1⟩
        go_wp2_with fail
        go_ret2
        exact ⟨fun _ => rfl, fun h => by omega, hb.trans (hb1.mono hb.size)⟩
    · have hkn : k = n := by omega
      have HK := Lib.hid hkn
      have hmn : m = n := by omega
      clear hkn
      generalize hN : ((l.take k).foldl CalI.addS []).length = N
      have HN := Lib.hid hN; clear hN
      go_wp2_with fail
      go_ret2
      refine ⟨fun h => by omega, fun _ => ⟨g, cc, ?_, ?_⟩, hb⟩
      · have := HN.out
        rw [HK.out, List.take_of_length_le (by rw [HL.out]; exact Nat.le_refl _)] at this
        rw [this]; rfl
      · have := unhide HIV
        rwa [HK.out, List.take_of_length_le (by rw [HL.out]; exact Nat.le_refl _)] at this

end Go.Proofs.YtbfpbmijmiljlaaDoor
