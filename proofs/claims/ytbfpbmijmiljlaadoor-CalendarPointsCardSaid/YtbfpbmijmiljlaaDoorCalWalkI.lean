/- Contracts over the calendar's program, each for every input under its hypotheses: Clone; the sorted copy. -/
import Derived.Test.YtbfpbmijmiljlaaDoorCalWalkH
import Derived.WalkSpells
import Derived.Shelf.SlSortCmp.NoneTotal
namespace Go.Proofs.YtbfpbmijmiljlaaDoor
set_option linter.unusedSimpArgs false
set_option linter.unusedVariables false
open Go.RowKit

theorem clone_nil (w : World) :
    Calls Tryd.prog 36 #[.slice none 0 0] w fun e w' => e = .returned (.slice none 0 0) ∧ w' = w := by
  have heq := fun W => Lib.run_eql_slice_nil (P := Tryd.prog) W 35 34 none 0 0 0 0 Tryd.underlying35
  go_enter Tryd.func36, Tryd.ntmps36
  go_wp2
  go_ret
  exact ⟨rfl, rfl⟩

theorem flat_one (l : List CalI.Iv) : ∀ u ∈ flat l, u.oneCell' = true := by
  intro u hu
  simp only [flat, List.mem_flatMap] at hu
  obtain ⟨x, _, hx⟩ := hu
  simp at hx
  rcases hx with rfl | rfl <;> rfl

theorem flat_cells {w : World} {b off : Nat} {l : List CalI.Iv}
    (h : ∀ k x, l[k]? = some x → w.cell? ⟨b, off + k * 2, none⟩ = some (.int .i64 x.1) ∧ w.cell? ⟨b, off + k * 2 + 1, none⟩ = some (.int .i64 x.2)) :
    ∀ j u, (flat l)[j]? = some u → w.cell? ((⟨b, off, none⟩ : Addr).add j) = some u := by
  intro j u hu
  have hj : j < l.length * 2 := by rw [← flat_length]; exact (List.getElem?_eq_some_iff.1 hu).1
  have hadd : (⟨b, off, none⟩ : Addr).add j = ⟨b, off + j, none⟩ := by
    unfold Addr.add
    split
    · rename_i e; subst e; rfl
    · rfl
  rw [hadd]
  obtain ⟨k, hk | hk⟩ : ∃ k, j = k * 2 ∨ j = k * 2 + 1 := ⟨j / 2, by omega⟩
  · subst hk
    have hx := List.getElem?_eq_getElem (l := l) (i := k) (by omega)
    rw [(flat_get l k _ hx).1] at hu
    cases hu
    exact (h k _ hx).1
  · subst hk
    have hx := List.getElem?_eq_getElem (l := l) (i := k) (by omega)
    rw [(flat_get l k _ hx).2] at hu
    cases hu
    exact (h k _ hx).2

set_option maxHeartbeats 1000000 in
theorem clone_rows (ad : Addr) (n c : Nat) (l : List CalI.Iv) (w : World) (B : Nat) (hB : B ≤ w.heap.size) (hl : l.length = n) (hn : n ≤ 1000000)
    (h : ∀ j u, (flat l)[j]? = some u → w.cell? (ad.add j) = some u) :
    Calls Tryd.prog 36 #[.slice (some ad) n c] w (Owns B w l) := by
  obtain ⟨i0, hi, hz0, hz1, hz2⟩ := info_parts infoIv
  have hb : ∀ o, ∀ j u, (flat l)[j]? = some u → (w.alloc o).cell? (ad.add j) = some u := fun o j u hu => Lib.cell?_alloc_some _ (h j u hu)
  have HB := hide hb; have HL := Lib.hid hl; clear h hl hb
  have heq := fun W => Lib.run_eql_slice_nil (P := Tryd.prog) W 35 34 (some ad) n c 0 0 Tryd.underlying35
  go_enter Tryd.func36, Tryd.ntmps36
  go_wp2_with (at_builtin; refine wpList_append_own _ rfl _ _ 35 rfl B 34 i0 (.agg #[.int .i64 0, .int .i64 0]) 2 16 Tryd.underlying35 hi hz0 hz1 hz2 rfl (by decide) _ _ _ rfl (World.ownsRow_made w #[] 0 hB (by decide) rfl) ad n c (flat l) rfl ?c0 ?c1 ?c2 ?c3 ?c4 ?c5 ?_)
  case c0 => rw [flat_length, HL.out]
  case c1 => exact HB.out _
  case c2 => exact flat_one _
  case c3 => unfold maxLen; omega
  case c4 => omega
  case c5 => simp; omega
  intro v' w1 hown hgrow _
  have HO := hide hown; have HG := hide hgrow; clear hown hgrow
  go_wp2
  go_ret
  refine ⟨v', rfl, ?_, ownBelow ((Below.refl B w).alloc hB _) (World.ownsRow_made (base := B) (size := 2) w #[] 0 hB (by decide) rfl) HG.out (by simp; omega)⟩
  have := HO.out
  unfold OwnIv
  rw [HL.out]
  simpa using this

theorem clone_any (A : Option Addr) (l : List CalI.Iv) (c : Nat) (w : World) (B : Nat) (hB : B ≤ w.heap.size) (hn : l.length ≤ 1000000) (h : IvAt w A l) (hA : A = none → c = 0) :
    Calls Tryd.prog 36 #[.slice A l.length c] w (Owns B w l) := by
  by_cases h0 : 0 < l.length
  · obtain ⟨b, off, rfl, _, hr⟩ := h.row h0
    exact clone_rows _ _ c l w B hB rfl hn (flat_cells hr)
  · have e : l = [] := List.length_eq_zero_iff.1 (by omega)
    subst e
    cases A with
    | none =>
      obtain rfl := hA rfl
      exact clone_nil w |>.mono fun e w' ⟨he, hw⟩ => ⟨_, he, World.ownsRow_nil _ _ _ _, hw ▸ Below.refl _ _⟩
    | some a => exact clone_rows a 0 c [] w B hB rfl (by decide) (fun j u hu => by simp [flat] at hu)

/- ---- the sort ---- -/
def encIv (x : CalI.Iv) : List Value := [.int .i64 x.1, .int .i64 x.2]
theorem holds_own {w : World} {B g n c : Nat} {l : List CalI.Iv} (hl : l.length = n) (h : w.ownsRow B 34 2 (.slice (some ⟨g, 0, none⟩) n c) n (flat l)) :
    Sort.HoldsK encIv 2 w g 0 l.toArray := by
  intro j hj
  rw [Sort.size_flatK] at hj
  simp only [List.size_toArray] at hj
  refine ⟨?_, ?_⟩
  · rw [Nat.zero_add, h.cellAt j (by omega), Sort.get_flatK _ _ _ _ (by simpa using hj)]
    have hx := List.getElem?_eq_getElem (l := l) (i := j / 2) (by omega)
    have hg := flat_get l (j / 2) _ hx
    have hd : l.toArray[j / 2]! = l[j / 2]'(by omega) := by
      rw [getElem!_pos l.toArray (j / 2) (by simp; omega)]
      simp
    rw [hd]
    obtain hm | hm : j % 2 = 0 ∨ j % 2 = 1 := by omega
    · have e : j = j / 2 * 2 := by omega
      have h1 := hg.1
      rw [← e] at h1
      rw [h1, hm]; rfl
    · have e : j = j / 2 * 2 + 1 := by omega
      have h1 := hg.2
      rw [← e] at h1
      rw [h1, hm]; rfl
  · rw [Nat.zero_add]; exact h.frozenAt j

theorem ivAt_holds {w : World} {g : Nat} {d : Array CalI.Iv} (h : Sort.HoldsK encIv 2 w g 0 d) : IvAt w (some ⟨g, 0, none⟩) d.toList := by
  intro k hk
  have hk' : k < d.size := by simpa using hk
  have h0 := (h.cell hk' (c := 0) (by decide)).1
  have h1 := (h.cell hk' (c := 1) (by decide)).1
  refine ⟨g, 0, rfl, ?_, ?_⟩
  · simpa [encIv, getElem!_pos d k hk'] using h0
  · simpa [encIv, getElem!_pos d k hk'] using h1

theorem below_sort {w : World} {B g : Nat} (hB : B ≤ w.heap.size) (hg : B ≤ g) (n : Nat) (d : Array CalI.Iv) (os : Array Obj) : Below B w (Go.Proofs.sortWorldK encIv 2 w g 0 n d os) := by
  refine ⟨rfl, rfl, rfl, ?_, ?_⟩
  · simp [Go.Proofs.sortWorldK, Sort.grow, Sort.putRowK, Sort.putRow, Sort.mapBlock, Sort.ahead]
  · intro k hk
    simp only [Go.Proofs.sortWorldK, Sort.grow, Sort.putRowK, Sort.putRow, Sort.mapBlock, Sort.ahead]
    by_cases h : k < w.heap.size
    · rw [Array.getElem?_append_left (by simpa using h), Array.getElem?_modify, if_neg (by omega)]
    · omega

theorem ltLo (x y : CalI.Iv) : Go.Proofs.ltOf (fun x y : CalI.Iv => Lib.compareInt x.1 y.1) x y = decide (x.1 < y.1) := by
  unfold Go.Proofs.ltOf Lib.compareInt
  by_cases h1 : x.1 < y.1
  · simp [h1]
  · by_cases h2 : y.1 < x.1 <;> simp [h1, h2]
theorem swoLo : Sort.SWO (Go.Proofs.ltOf fun x y : CalI.Iv => Lib.compareInt x.1 y.1) where
  irrefl x := by rw [ltLo]; simp
  trans x y z h1 h2 := by rw [ltLo] at *; simp at *; omega
  ntrans x y z h1 h2 := by rw [ltLo] at *; simp at *; omega

theorem isNaN_any (x : Int) (w : World) : Calls Tryd.prog 48 #[.int .i64 x] w fun e w' => e = .returned (.bool false) ∧ w' = w := by
  go_enter Tryd.func48, Tryd.ntmps48
  go_wp2
  go_ret
  exact ⟨by simp, rfl⟩
end Go.Proofs.YtbfpbmijmiljlaaDoor
