/- Contracts over the calendar's program, each for every input under its hypotheses: Union. -/
import Derived.Test.YtbfpbmijmiljlaaDoorCalWalkJ
namespace Go.Proofs.YtbfpbmijmiljlaaDoor
set_option linter.unusedSimpArgs false
set_option linter.unusedVariables false
open Go.RowKit

def allOk (l : List CalI.Iv) : Bool := l.all fun x => ivOk x.1 x.2
theorem ivOk_iff (a b : Int) : ivOk a b = true ↔ (0 ≤ a ∧ a ≤ 1048576) ∧ (0 ≤ b ∧ b ≤ 1048576) ∧ a ≤ b := by
  simp only [ivOk, Bool.and_eq_true, CalM.isDay_iff, decide_eq_true_eq]
theorem allOk_bd {l : List CalI.Iv} (h : allOk l = true) : CalI.Bd l ∧ CalI.Okay l := by
  simp only [allOk, List.all_eq_true] at h
  constructor
  · intro x hx; have := (ivOk_iff _ _).1 (h x hx); omega
  · intro x hx; have := (ivOk_iff _ _).1 (h x hx); omega

theorem sort_none (A : Option Addr) (c : Nat) (fv : Value) (w : World) :
    Calls Tryd.prog 37 #[.slice A 0 c, fv] w fun e w' => e = .returned (.tuple #[]) ∧ w' = w :=
  Go.Proofs.AnyF.slices_SortFunc_none Tryd.sortIv A c fv w

/-- what Union leaves where all intervals are valid -/
def UnionOk (w : World) (l : List CalI.Iv) (e : Ending) (w' : World) : Prop :=
  ∃ (u : List CalI.Iv) (A : Option Addr) (c : Nat), e = .returned (.tuple #[.slice A u.length c, .int .i64 0]) ∧ IvAt w' A u ∧ CalI.IsUnion l u ∧ u.length ≤ l.length ∧ (A = none → c = 0) ∧ Below w.heap.size w w'

theorem OwnIv.form2 {w : World} {B : Nat} {v : Value} {l : List CalI.Iv} (h : OwnIv w B v l) : ∃ A c, v = .slice A l.length c ∧ IvAt w A l ∧ (A = none → c = 0) := by
  rcases h.2 with ⟨rfl, h0⟩ | ⟨g, cap, cur, rfl, rest⟩
  · have e : l = [] := List.length_eq_zero_iff.1 h0
    subst e
    exact ⟨none, 0, rfl, IvAt.nil _ _, fun _ => rfl⟩
  · obtain ⟨A, c, e, hi, _⟩ := h.form
    injection e with e1 e2 e3
    subst e1 e3
    exact ⟨_, cap, rfl, hi, fun h => by cases h⟩


theorem ivE_of {l : List CalI.Iv} (h : allOk l = true) {k : Nat} {x : CalI.Iv} (hx : l[k]? = some x) : ivE x.1 x.2 = 0 := by
  apply ivE_t
  simp only [allOk, List.all_eq_true] at h
  exact h x (List.mem_of_getElem? hx)

set_option maxHeartbeats 2000000 in
theorem union_ok (b off c n : Nat) (l : List CalI.Iv) (w : World) (hl : l.length = n) (hn0 : 0 < n) (hn : n ≤ 100000) (hok : allOk l = true) (hbw : b < w.heap.size)
    (h : ∀ k x, l[k]? = some x → w.cell? ⟨b, off + k * 2, none⟩ = some (.int .i64 x.1) ∧ w.cell? ⟨b, off + k * 2 + 1, none⟩ = some (.int .i64 x.2)) :
    Calls Tryd.prog 21 #[.slice (some ⟨b, off, none⟩) n c] w (UnionOk w l) := by
  have HL := Lib.hid hl; have H := hide h; have HO := hide hok; clear hl h hok
  go_enter Tryd.func21, Tryd.ntmps21
  go_wp2
  go_loopw [2, 3, 11] (fun v _ i wr => ∃ k : Nat, k ≤ n ∧ v = .slice none 0 0 ∧ i = .int .i64 k ∧ Below w.heap.size w wr) (fun _ _ i _ => n - (intOf i).toNat)
  case atStart => exact ⟨0, Nat.zero_le _, rfl, rfl, Below.refl _ _⟩
  case round =>
    obtain ⟨k, hk, rfl, rfl, hb⟩ := hrel
    by_cases hlt : k < n
    · obtain ⟨⟨x1, x2⟩, hx⟩ : ∃ x, l[k]? = some x := ⟨_, List.getElem?_eq_getElem (by rw [HL.out]; exact hlt)⟩
      obtain ⟨c0, c1⟩ := H.out k _ hx
      have hE : ivE x1 x2 = 0 := ivE_of HO.out hx
      have HX := Lib.hid hx; clear hx
      simp only at c0 c1
      rw [← hb.cell (p := ⟨b, off + k * 2, none⟩) hbw] at c0
      rw [← hb.cell (p := ⟨b, off + k * 2 + 1, none⟩) hbw] at c1
      go_wp2_with (go_at_call 23; refine (check_any _ _ _).mono ?_; rintro e w1 ⟨rfl, hb1⟩)
      go_roundw
      case rel => exact ⟨k + 1, by omega, rfl, by go_num, hb.trans (((Below.refl _ _).alloc hb.size _).trans (hb1.mono (by have := hb.size; simp; omega)))⟩
      case measure => simp [intOf]; omega
    · have hkn : k = n := by omega
      have HK := Lib.hid hkn; clear hkn
      have hiv : IvAt wr (some ⟨b, off, none⟩) l := by
        intro j hj
        obtain ⟨c0, c1⟩ := H.out j _ (List.getElem?_eq_getElem hj)
        exact ⟨b, off, rfl, (hb.cell hbw).trans c0, (hb.cell hbw).trans c1⟩
      have hcl := clone_any (some ⟨b, off, none⟩) l c wr wr.heap.size (Nat.le_refl _) (by rw [HL.out]; omega) hiv (fun h => by cases h)
      rw [HL.out] at hcl
      have HC := hide hcl; clear hcl hiv
      go_wp2_with (go_at_call 36; refine (unhide HC).mono ?_; rintro e w1 ⟨v1, rfl, ho1, hb1⟩)
      obtain ⟨g, c1, rfl⟩ : ∃ g c1, v1 = .slice (some ⟨g, 0, none⟩) n c1 := by
        rcases ho1.2 with ⟨_, h0⟩ | ⟨g, cap, cur, hv, _⟩
        · have := HL.out; omega
        · exact ⟨g, cap, by rw [hv, HL.out]⟩
      have hsrt := sort_any g c1 n l w1 wr.heap.size hb1.size HL.out (by omega) (by have := ho1; unfold OwnIv at this; rwa [HL.out] at this)
      have HS := hide hsrt; have HO1 := hide ho1; clear hsrt ho1
      go_wp2_with (go_at_call 37; refine (unhide HS).mono ?_; rintro e w2 ⟨rfl, s, hp, hs, hiv, hb2⟩)
      have hsl : s.length = n := hp.length_eq.trans HL.out
      have hbd := (allOk_bd HO.out).1.perm hp
      obtain ⟨b', off', he, hbw2, hr2⟩ := hiv.row (by omega)
      have e1 : b' = g := by injection he with he; injection he with h1 h2; exact h1.symm
      have e2 : off' = 0 := by injection he with he; injection he with h1 h2; exact h2.symm
      subst e1 e2
      have HP := hide hp; have HSO := hide hs; have HSL := Lib.hid hsl; have HR := hide hr2; have HBD := hide hbd; clear hp hs hsl hr2 hbd he hiv
      go_wp2_with fail
      go_loopw [2, 27] (fun v i wl => ∃ k : Nat, k ≤ n ∧ i = .int .i64 k ∧ OwnIv wl w2.heap.size v ((s.take k).foldl CalI.joinS []) ∧ Below w2.heap.size w2 wl) (fun _ i _ => n - (intOf i).toNat)
      case atStart => exact ⟨0, Nat.zero_le _, rfl, World.ownsRow_nil _ _ _ _, Below.refl _ _⟩
      case round =>
        obtain ⟨j, hj, rfl, hown, hb3⟩ := hrel
        by_cases hlt2 : j < n
        · obtain ⟨⟨y1, y2⟩, hy⟩ : ∃ x, s[j]? = some x := ⟨_, List.getElem?_eq_getElem (by rw [HSL.out]; exact hlt2)⟩
          obtain ⟨d0, d1⟩ := HR.out j _ hy
          simp only [Nat.zero_add] at d0 d1
          have hyb := HBD.out (y1, y2) (List.mem_of_getElem? hy)
          rw [← hb3.cell (p := ⟨b', j * 2, none⟩) hbw2] at d0
          rw [← hb3.cell (p := ⟨b', j * 2 + 1, none⟩) hbw2] at d1
          have hbt := CalI.fold_bd _ [] (fun x hx => by cases hx) (HBD.out.take j)
          have hlen := CalI.fold_len (s.take j) []
          have hlen2 : (s.take j).length ≤ j := List.length_take_le _ _
          simp only [List.length_nil, Nat.zero_add] at hlen
          have hjn := fun W (hW : w2.heap.size ≤ W.heap.size) (hO : OwnIv W w2.heap.size u2 ((s.take j).foldl CalI.joinS [])) => join_any u2 _ y1 y2 W w2.heap.size hW (by omega) hbt hO
          have hwl := hb3.size
          have hJ := hjn (wr.alloc (.cells #[.int .i64 y1, .int .i64 y2] 34)) (by simp; omega) (World.ownsRow.alloc hown _)
          have HJ := hide hJ; have HY := hide hy; have HOW := hide hown; clear hjn hJ hy hown hbt hlen hlen2 hyb
          go_wp2_with (go_at_call 40; refine (unhide HJ).mono ?_; rintro e w4 ⟨v4, rfl, ho4, hb4⟩)
          have HO4 := hide ho4; clear ho4
          go_roundw
          case rel =>
            refine ⟨j + 1, by omega, by go_num, ?_, hb3.trans (((Below.refl _ _).alloc hwl _).trans hb4)⟩
            have := HO4.out
            rw [List.take_add_one, HY.out]
            simpa using this
          case measure => simp [intOf]; omega
        · have hjn : j = n := by omega
          have HJN := Lib.hid hjn; clear hjn
          obtain ⟨A, cc, hv, hiv, hA⟩ := hown.form2
          have HV := hide hv; have HIV := hide hiv; clear hv hiv hown
          go_wp2_with fail
          go_ret2
          have hs2 : s.take j = s := List.take_of_length_le (by rw [HSL.out, HJN.out]; exact Nat.le_refl _)
          have hiv := HIV.out
          have hv := HV.out
          rw [hs2] at hiv hv
          refine ⟨_, A, cc, by rw [hv]; rfl, hiv, CalI.union_of_sorted HP.out (allOk_bd HO.out).2 HSO.out, ?_, hA, ?_⟩
          · have := CalI.fold_len s []
            have := HP.out.length_eq
            simp at *; omega
          · exact hb.trans ((hb1.trans (hb2.trans (hb3.mono (Nat.le_trans hb1.size hb2.size)))).mono hb.size)

set_option maxHeartbeats 1000000 in
theorem union_zero (A : Option Addr) (c : Nat) (w : World) (hA : A = none → c = 0) :
    Calls Tryd.prog 21 #[.slice A 0 c] w (UnionOk w []) := by
  have hcl := fun W : World => clone_any A [] c W W.heap.size (Nat.le_refl _) (by decide) (IvAt.nil _ _) hA
  have HC := hide hcl; clear hcl hA
  go_enter Tryd.func21, Tryd.ntmps21
  go_wp2
  go_loopw [2, 3, 11] (fun v _ i wr => v = .slice none 0 0 ∧ i = .int .i64 0 ∧ wr = w) (fun _ _ _ _ => 0)
  case atStart => exact ⟨rfl, rfl, rfl⟩
  case round =>
    obtain ⟨rfl, rfl, rfl⟩ := hrel
    go_wp2_with (go_at_call 36; refine ((unhide HC) _).mono ?_; rintro e w1 ⟨v1, rfl, ho1, hb1⟩)
    obtain ⟨A1, c1, rfl, _, _⟩ := ho1.form2
    go_wp2_with (go_at_call 37; refine (sort_none _ _ _ _).mono ?_; rintro e w2 ⟨rfl, rfl⟩)
    go_loopw [2, 27] (fun v i wl => v = .slice none 0 0 ∧ i = .int .i64 0 ∧ wl = w2) (fun _ _ _ => 0)
    case atStart => exact ⟨rfl, rfl, rfl⟩
    case round =>
      obtain ⟨rfl, rfl, rfl⟩ := hrel
      go_wp2_with fail
      go_ret2
      exact ⟨[], none, 0, rfl, IvAt.nil _ _, ⟨trivial, fun n => Iff.rfl⟩, Nat.le_refl _, fun _ => rfl, hb1⟩

theorem union_any (A : Option Addr) (c : Nat) (l : List CalI.Iv) (w : World) (h : IvAt w A l) (hn : l.length ≤ 100000) (hA : A = none → c = 0) (hok : allOk l = true) :
    Calls Tryd.prog 21 #[.slice A l.length c] w (UnionOk w l) := by
  by_cases h0 : 0 < l.length
  · obtain ⟨b, off, rfl, hb, hr⟩ := h.row h0
    exact union_ok b off c l.length l w rfl h0 hn hok hb hr
  · have e : l = [] := List.length_eq_zero_iff.1 (by omega)
    subst e
    exact union_zero A c w hA

set_option maxHeartbeats 1000000 in
theorem union_bad (A : Option Addr) (c : Nat) (l : List CalI.Iv) (w : World) (h : IvAt w A l) (hn : l.length ≤ 100000) (hok : allOk l = false) :
    Calls Tryd.prog 21 #[.slice A l.length c] w fun e w' => e = .returned (.tuple #[.slice none 0 0, .int .i64 10]) ∧ Below w.heap.size w w' := by
  have h0 : 0 < l.length := by
    cases l with
    | nil => simp [allOk] at hok
    | cons a r => simp
  obtain ⟨b, off, rfl, hbw, hr⟩ := h.row h0
  have hl0 : l.length = l.length := rfl
  generalize hN : l.length = n at *
  have HN := Lib.hid hN; have H := hide hr; have HO := hide hok; clear hN h hr hok hl0
  go_enter Tryd.func21, Tryd.ntmps21
  go_wp2
  go_loopw [2, 3, 11] (fun v _ i wr => ∃ k : Nat, k ≤ n ∧ v = .slice none 0 0 ∧ i = .int .i64 k ∧ allOk (l.take k) = true ∧ Below w.heap.size w wr) (fun _ _ i _ => n - (intOf i).toNat)
  case atStart => exact ⟨0, Nat.zero_le _, rfl, rfl, rfl, Below.refl _ _⟩
  case round =>
    obtain ⟨k, hk, rfl, rfl, hpre, hb⟩ := hrel
    have hlt : k < n := by
      rcases Nat.lt_or_ge k n with h | h
      · exact h
      · rw [List.take_of_length_le (by rw [HN.out]; exact h), HO.out] at hpre
        cases hpre
    obtain ⟨⟨x1, x2⟩, hx⟩ : ∃ x, l[k]? = some x := ⟨_, List.getElem?_eq_getElem (by rw [HN.out]; exact hlt)⟩
    obtain ⟨c0, c1⟩ := H.out k _ hx
    have HX := Lib.hid hx; have HP := hide hpre; clear hx hpre
    simp only at c0 c1
    rw [← hb.cell (p := ⟨b, off + k * 2, none⟩) hbw] at c0
    rw [← hb.cell (p := ⟨b, off + k * 2 + 1, none⟩) hbw] at c1
    cases hE : ivOk x1 x2
    · have hE2 : ivE x1 x2 = 10 := ivE_f hE
      have HE := Lib.hid hE; clear hE
      go_wp2_with (go_at_call 23; refine (check_any _ _ _).mono ?_; rintro e w1 ⟨rfl, hb1⟩)
      go_ret2
      exact ⟨rfl, hb.trans (((Below.refl _ _).alloc hb.size _).trans (hb1.mono (by have := hb.size; simp; omega)))⟩
    · have hE2 : ivE x1 x2 = 0 := ivE_t hE
      have HE := Lib.hid hE; clear hE
      go_wp2_with (go_at_call 23; refine (check_any _ _ _).mono ?_; rintro e w1 ⟨rfl, hb1⟩)
      go_roundw
      case rel =>
        refine ⟨k + 1, by omega, rfl, by go_num, ?_, hb.trans (((Below.refl _ _).alloc hb.size _).trans (hb1.mono (by have := hb.size; simp; omega)))⟩
        have := HP.out
        rw [List.take_add_one, HX.out]
        simp only [allOk, List.all_append] at this ⊢
        rw [this]
        simpa using HE.out
      case measure => simp [intOf]; omega

end Go.Proofs.YtbfpbmijmiljlaaDoor
