/- Contracts over the codec's program, each for every value: Get. -/
import Derived.Test.YtdmaopfaeigelaaGreatDoorCodRWD
import Derived.Test.YtdmaopfaeigelaaGreatDoorCodShelf
import Derived.Lib.SlicesS
namespace Go.Proofs.YtdmaopfaeigelaaGreatDoor
set_option linter.unusedSimpArgs false
set_option linter.unusedVariables false
open Go.RowKit

theorem idxFrom_range (x : ByteArray) : ∀ (ks : List ByteArray) (i : Nat), Lib.idxFromS ks x i = -1 ∨ ((i : Int) ≤ Lib.idxFromS ks x i ∧ Lib.idxFromS ks x i < (i + ks.length : Nat))
  | [], i => by simp [Lib.idxFromS]
  | z :: r, i => by
    have h := idxFrom_range x r (i + 1)
    simp only [Lib.idxFromS]
    split
    · right
      simp
      omega
    · rcases h with h | h
      · exact .inl h
      · right
        simp at h ⊢
        omega
theorem idx_range (x : ByteArray) (ks : List ByteArray) : Lib.idxOfS ks x = -1 ∨ (0 ≤ Lib.idxOfS ks x ∧ Lib.idxOfS ks x < (ks.length : Int)) := by
  have := idxFrom_range x ks 0
  unfold Lib.idxOfS
  simpa using this

theorem index_any (A : Option Addr) (c : Nat) (ks : List ByteArray) (x : ByteArray) (w : World) (h : StrsAt w A ks) (hn : ks.length ≤ 140737488351232) :
    Calls Tryz.prog 60 #[.slice A ks.length c, .string x] w fun e w' => e = .returned (.int .i64 (Lib.idxOfS ks x)) ∧ w' = w := by
  by_cases h0 : 0 < ks.length
  · obtain ⟨b, o, rfl, _, hr⟩ := h.row h0
    refine (Tryz.slices_Index_string b o ks.length c ks x w (Nat.le_refl _) (by omega) (fun j hj => ?_)).mono ?_
    · rw [List.getD_eq_getElem?_getD, List.getElem?_eq_getElem hj]
      exact hr j _ (List.getElem?_eq_getElem hj)
    rintro e w' ⟨rfl, rfl⟩
    exact ⟨by rw [List.take_length], rfl⟩
  · have e0 : ks = [] := List.length_eq_zero_iff.1 (by omega)
    subst e0
    exact Tryz.slices_Index_string_empty A c x w

def zeroVa : Va := .mk 0 0 ⟨#[]⟩ [] []
abbrev zeroV : Value := vaV 0 0 ⟨#[]⟩ none 0 0 none 0 0
theorem VAt.zero (w : World) : VAt w zeroVa zeroV :=
  .mk 0 0 ⟨#[]⟩ [] [] none 0 none 0 ⟨by decide, by decide⟩ ⟨by decide, by decide⟩ (by decide) (by decide) (by decide) (fun _ => rfl) (fun _ => rfl) (Nat.le_refl _) 0 0 (fun _ => zeroV) (fun i hi => by simp at hi) (fun i x hx => by simp at hx) (fun i s hs => by simp at hs)

def getF : Va → ByteArray → Option Va
  | .mk k _ _ l ks, x => if k = 4 ∧ 0 ≤ Lib.idxOfS ks x then l[(Lib.idxOfS ks x).toNat]? else none
def GotIs (g : Option Va) (w : World) (e : Ending) (w' : World) : Prop :=
  ∃ x, e = .returned (.tuple #[x, .bool g.isSome]) ∧ VAt w' (g.getD zeroVa) x ∧ Below w.heap.size w w'

def GotX (b : Bool) (x : Value) (w : World) (e : Ending) (w' : World) : Prop := e = .returned (.tuple #[x, .bool b]) ∧ Below w.heap.size w w'
set_option maxHeartbeats 2000000 in
theorem get_none (k n : Int) (s : ByteArray) (A : Option Addr) (m c : Nat) (A' : Option Addr) (m' c' : Nat) (x : ByteArray) (i : Int) (w : World) (hm : m ≤ 140737488351232) (hi : i = -1 ∨ (0 ≤ i ∧ i ≤ 140737488351232)) (h : k ≠ 4 ∨ i < 0 ∨ (m : Int) ≤ i)
    (HI : Hid (∀ W, Below w.heap.size w W → Calls Tryz.prog 60 #[.slice A' m' c', .string x] W fun e w' => e = .returned (.int .i64 i) ∧ w' = W)) :
    Calls Tryz.prog 28 #[vaV k n s A m c A' m' c', .string x] w (GotX false zeroV w) := by
  by_cases h1 : k = 4
  · subst h1
    by_cases h2 : i < 0
    · have b2 : decide (i < 0) = true := decide_eq_true h2
      go_enter Tryz.func28, Tryz.ntmps28
      go_wp2_with fail
      refine ((unhide HI) _ (by go_grown)).mono ?_; rintro e w1 ⟨rfl, rfl⟩
      go_wp2_with fail
      exact bodyPost_ret (v := .tuple #[zeroV, .bool false]) (by simp [results, Tryz.results28, go_sem]) rfl ⟨rfl, by go_grown⟩
    · have b2 : decide (i < 0) = false := decide_eq_false h2
      have b3 : decide ((m : Int) ≤ i) = true := decide_eq_true (by omega)
      go_enter Tryz.func28, Tryz.ntmps28
      go_wp2_with fail
      refine ((unhide HI) _ (by go_grown)).mono ?_; rintro e w1 ⟨rfl, rfl⟩
      go_wp2_with fail
      exact bodyPost_ret (v := .tuple #[zeroV, .bool false]) (by simp [results, Tryz.results28, go_sem]) rfl ⟨rfl, by go_grown⟩
  · have b1 : (k != 4) = true := by simpa using h1
    go_enter Tryz.func28, Tryz.ntmps28
    go_wp2_with fail
    refine ((unhide HI) _ (by go_grown)).mono ?_; rintro e w1 ⟨rfl, rfl⟩
    go_wp2_with fail
    exact bodyPost_ret (v := .tuple #[zeroV, .bool false]) (by simp [results, Tryz.results28, go_sem]) rfl ⟨rfl, by go_grown⟩

set_option maxHeartbeats 2000000 in
theorem get_some (n : Int) (s : ByteArray) (b o m c : Nat) (A' : Option Addr) (m' c' : Nat) (x : ByteArray) (i : Nat) (w : World) (hm : m ≤ 140737488351232) (hi : i < m) (hbw : b < w.heap.size)
    (k1 n1 : Int) (s1 : ByteArray) (A1 : Option Addr) (m1 c1 : Nat) (A2 : Option Addr) (m2 c2 : Nat)
    (d0 : w.cell? ⟨b, o + i * 5, none⟩ = some (.int .i64 k1)) (d1 : w.cell? ⟨b, o + i * 5 + 1, none⟩ = some (.int .i64 n1)) (d2 : w.cell? ⟨b, o + i * 5 + 2, none⟩ = some (.string s1))
    (d3 : w.cell? ⟨b, o + i * 5 + 3, none⟩ = some (.slice A1 m1 c1)) (d4 : w.cell? ⟨b, o + i * 5 + 4, none⟩ = some (.slice A2 m2 c2))
    (HI : Hid (∀ W, Below w.heap.size w W → Calls Tryz.prog 60 #[.slice A' m' c', .string x] W fun e w' => e = .returned (.int .i64 (i : Int)) ∧ w' = W)) :
    Calls Tryz.prog 28 #[vaV 4 n s (some ⟨b, o, none⟩) m c A' m' c', .string x] w (GotX true (vaV k1 n1 s1 A1 m1 c1 A2 m2 c2) w) := by
  have b3 : decide ((m : Int) ≤ (i : Int)) = false := decide_eq_false (by omega)
  have b4 : decide (m ≤ i) = false := decide_eq_false (by omega)
  go_enter Tryz.func28, Tryz.ntmps28
  go_wp2_with fail
  refine ((unhide HI) _ (by go_grown)).mono ?_; rintro e w1 ⟨rfl, rfl⟩
  go_wp2_with fail
  exact bodyPost_ret (v := .tuple #[vaV k1 n1 s1 A1 m1 c1 A2 m2 c2, .bool true]) (by simp [results, Tryz.results28, go_sem]) rfl ⟨rfl, by go_grown⟩

/-- what is found, known ahead of the call -/
theorem get_x (V : Va) (v : Value) (x : ByteArray) (w : World) (h : VAt w V v) : ∃ y, VAt w ((getF V x).getD zeroVa) y ∧ ∀ W, Below w.heap.size w W → Calls Tryz.prog 28 #[v, .string x] W (GotX (getF V x).isSome y W) := by
  obtain ⟨k, n, s, l, ks, A, c, A', c', rfl, rfl, _, _, _, h1, h2, _, _, hE, hS⟩ := h.open
  have hI := fun (W : World) (hW : Below w.heap.size w W) => index_any A' c' ks x W (hS.below hW) h2
  have hr := idx_range x ks
  by_cases hc : k = 4 ∧ 0 ≤ Lib.idxOfS ks x ∧ Lib.idxOfS ks x < (l.length : Int)
  · obtain ⟨rfl, hc1, hc2⟩ := hc
    obtain ⟨i, hi⟩ : ∃ i : Nat, Lib.idxOfS ks x = i := ⟨(Lib.idxOfS ks x).toNat, by omega⟩
    rw [hi] at hI hc2
    obtain ⟨X, hX⟩ : ∃ X, l[i]? = some X := ⟨_, List.getElem?_eq_getElem (by omega)⟩
    obtain ⟨b, o, rfl, hbw, hrow⟩ := hE.row (by omega)
    obtain ⟨k1, n1, s1, A1, m1, c1, A2, m2, c2, d0, d1, d2, d3, d4, hv⟩ := hrow i X hX
    have e : getF (.mk 4 n s l ks) x = some X := by simp only [getF, hi]; rw [if_pos (by simp)]; simpa using hX
    rw [e]
    refine ⟨_, hv, fun W hW => ?_⟩
    have kk : ∀ {p v}, w.cell? p = some v → W.cell? p = some v := fun {p v} h => (hW.cell (World.block_lt_of_cell? w p h)).trans h
    exact get_some n s b o l.length c A' _ c' x i W h1 (by omega) (Nat.lt_of_lt_of_le hbw hW.size) k1 n1 s1 A1 m1 c1 A2 m2 c2 (kk d0) (kk d1) (kk d2) (kk d3) (kk d4) (fun W' hW' => hI W' (thenB hW hW'))
  · have e : getF (.mk k n s l ks) x = none := by
      simp only [getF]
      split
      · rename_i hq
        rw [List.getElem?_eq_none_iff]
        omega
      · rfl
    rw [e]
    exact ⟨zeroV, VAt.zero _, fun W hW => get_none k n s A l.length c A' _ c' x (Lib.idxOfS ks x) W h1 (by omega) (by omega) (fun W' hW' => hI W' (thenB hW hW'))⟩
theorem get_any (V : Va) (v : Value) (x : ByteArray) (w : World) (h : VAt w V v) : Calls Tryz.prog 28 #[v, .string x] w (GotIs (getF V x) w) := by
  obtain ⟨y, hy, hc⟩ := get_x V v x w h
  refine (hc w (Below.refl _ _)).mono ?_
  rintro e w' ⟨rfl, hb⟩
  exact ⟨y, rfl, hy.later hb, hb⟩
end Go.Proofs.YtdmaopfaeigelaaGreatDoor
