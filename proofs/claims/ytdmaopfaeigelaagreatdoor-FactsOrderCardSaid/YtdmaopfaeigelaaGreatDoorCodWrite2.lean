/- Contracts over the codec's program, each for every well-formed value: writeList, writeDict, write. -/
import Derived.Test.YtdmaopfaeigelaaGreatDoorCodWrite
import Derived.StillTailTactics
namespace Go.Proofs.YtdmaopfaeigelaaGreatDoor
set_option linter.unusedSimpArgs false
set_option linter.unusedVariables false
open Go.RowKit

abbrev WrIs (N : Nat) : Prop := ∀ (V : Va), V.sz ≤ N → V.wf = true → ∀ (w0 w : World) (v bv : Value) (n : Nat) (xs : List Value), VAt w0 V v → Below w0.heap.size w0 w → Pow w0.heap.size w →
  w.ownsRow w0.heap.size 5 1 bv n xs → n + V.enc.length ≤ 1000000000 → Calls Tryz.prog 78 #[bv, v] w (Wrote w0.heap.size w n xs V.enc)

theorem wfAll_mem {l : List Va} (h : wfAll l = true) {i : Nat} {x : Va} (hx : l[i]? = some x) : x.wf = true := by
  induction l generalizing i with
  | nil => simp at hx
  | cons y r ih =>
    simp only [wfAll, Bool.and_eq_true] at h
    cases i with
    | zero => simp at hx; subst hx; exact h.1
    | succ i => exact ih h.2 (by simpa using hx)
theorem encL_bound {l : List Va} {i : Nat} {x : Va} (h : l[i]? = some x) : (encL (l.take i)).length + x.enc.length ≤ (encL l).length := by
  have h1 := encL_take h
  have h2 := encL_split l (i + 1)
  rw [h2, h1]
  simp only [List.length_append]
  omega
theorem encD_bound {l : List Va} {ks : List ByteArray} {i : Nat} {x : Va} {q : ByteArray} (h : l[i]? = some x) (hq : ks[i]? = some q) : (encD (l.take i) (ks.take i)).length + ((encT q).length + x.enc.length) ≤ (encD l ks).length := by
  have h1 := encD_take h hq
  have h2 := encD_split l ks (i + 1)
  rw [h1] at h2
  simp only [List.length_append] at h2
  omega

set_option maxHeartbeats 2000000 in
theorem wlist_rows (N : Nat) (ih : Hid (WrIs N)) (k n : Int) (s : ByteArray) (l : List Va) (b o m c : Nat) (A' : Option Addr) (m' c' : Nat) (w0 w : World) (bv : Value) (nn : Nat) (xs : List Value)
    (HN : Hid (szAll l ≤ N)) (hm : m ≤ 140737488351232) (h0 : 0 < m) (HL : Hid (l.length = m)) (HF : Hid (wfAll l = true)) (hbw : b < w0.heap.size)
    (HR : Hid (∀ i x, l[i]? = some x → ∃ k n s A1 m c A2 m' c', w0.cell? ⟨b, o + i * 5, none⟩ = some (.int .i64 k) ∧ w0.cell? ⟨b, o + i * 5 + 1, none⟩ = some (.int .i64 n) ∧
      w0.cell? ⟨b, o + i * 5 + 2, none⟩ = some (.string s) ∧ w0.cell? ⟨b, o + i * 5 + 3, none⟩ = some (.slice A1 m c) ∧ w0.cell? ⟨b, o + i * 5 + 4, none⟩ = some (.slice A2 m' c') ∧ VAt w0 x (vaV k n s A1 m c A2 m' c')))
    (HB : Hid (Below w0.heap.size w0 w)) (HT : Hid (Pow w0.heap.size w)) (HO : Hid (w.ownsRow w0.heap.size 5 1 bv nn xs)) (hlim : nn + (encL l).length + 2 ≤ 1000000000) :
    Calls Tryz.prog 145 #[bv, vaV k n s (some ⟨b, o, none⟩) m c A' m' c'] w (Wrote w0.heap.size w nn xs (108 :: encL l ++ [101])) := by
  obtain ⟨i0, hi, hz0, hz1, hz2⟩ := info_parts infoByte
  have hw0 : w0.heap.size ≤ w.heap.size := (unhide HB).size
  go_enter Tryz.func145, Tryz.ntmps145
  go_wp2_with (at_builtin; refine wpList_append_own _ rfl _ _ 52 rfl w0.heap.size 5 i0 (.int .u8 0) 1 1 Tryz.underlying52 hi hz0 hz1 hz2 rfl (by decide) _ _ _ rfl (World.ownsRow.alloc (World.ownsRow.alloc (unhide HO) _) _) ⟨_, 0, none⟩ 1 1 [.int .u8 108] rfl rfl ?c1 ?c2 ?c3 ?c4 ?c5 ?_)
  case c1 => exact oneAt (by go_simp)
  case c2 => exact byteOne _
  case c3 => unfold maxLen; omega
  case c4 => omega
  case c5 => simp; omega
  intro v1 w1 hown1 hgrow1 _
  have HF1 : Hid (Fr w0.heap.size (w.alloc (.cells #[.int .i64 k, .int .i64 n, .string s, .slice (some ⟨b, o, none⟩) m c, .slice A' m' c'] 66)) w1) :=
    ((Fr.refl _ _).alloc (by simp; omega) _).grown (World.ownsRow.alloc (World.ownsRow.alloc (unhide HO) _) _) hgrow1 (by simp; omega)
  have hw1 : w0.heap.size ≤ w1.heap.size := by have := hgrow1.size; simp at this; omega
  have hc1 : w1.cell? ⟨w.heap.size, 3, none⟩ = some (.slice (some ⟨b, o, none⟩) m c) := boxCell (unhide HF1) (by decide) 3
  have HG1 : Hid (Fr w0.heap.size w w1) := ((Fr.refl _ _).alloc hw0 _).trans (unhide HF1)
  have HO1 := hide hown1; clear hown1 hgrow1
  go_wp2_with fail
  go_loopw [0, 13] (fun v i wr => ∃ j : Nat, j ≤ m ∧ i = .int .i64 j ∧ wr.ownsRow w0.heap.size 5 1 v (nn + (1 + (encL (l.take j)).length)) (xs ++ Lib.byteCells (108 :: encL (l.take j))) ∧ Fr w0.heap.size w wr) (fun _ i _ => m - (intOf i).toNat)
  case atStart => exact ⟨0, Nat.zero_le _, rfl, ownCast (unhide HO1) (by simp [encL]) (by simp [encL, Lib.byteCells]), unhide HG1⟩
  case round =>
    obtain ⟨j, hj, rfl, hown, hfr⟩ := hrel
    have HW := hide hown; have HG := hide hfr; clear hown hfr
    have hBr := hide ((unhide HB).trans (unhide HG).1)
    have hwr : w0.heap.size ≤ wr.heap.size := (unhide hBr).size
    by_cases hlt : j < m
    · obtain ⟨x, hx⟩ : ∃ x, l[j]? = some x := ⟨_, List.getElem?_eq_getElem (by rw [unhide HL]; exact hlt)⟩
      obtain ⟨k1, n1, s1, A1, m1, c1, A2, m2, c2, d0, d1, d2, d3, d4, hv⟩ := (unhide HR) j x hx
      rw [← (unhide hBr).cell (p := ⟨b, o + j * 5, none⟩) hbw] at d0
      rw [← (unhide hBr).cell (p := ⟨b, o + j * 5 + 1, none⟩) hbw] at d1
      rw [← (unhide hBr).cell (p := ⟨b, o + j * 5 + 2, none⟩) hbw] at d2
      rw [← (unhide hBr).cell (p := ⟨b, o + j * 5 + 3, none⟩) hbw] at d3
      rw [← (unhide hBr).cell (p := ⟨b, o + j * 5 + 4, none⟩) hbw] at d4
      have hbd := encL_bound hx
      have hC := fun (W : World) (hW : Fr w0.heap.size wr W) (hO : W.ownsRow w0.heap.size 5 1 u0 (nn + (1 + (encL (l.take j)).length)) (xs ++ Lib.byteCells (108 :: encL (l.take j)))) => (unhide ih) x (Nat.le_trans (szAll_mem hx) (unhide HN)) (wfAll_mem (unhide HF) hx) w0 W _ u0 _ _ hv ((unhide hBr).trans hW.1) ((unhide HT).along ((unhide HG).1.trans hW.1)) hO (by omega)
      have HC := hide hC
      have HTK := hide (encL_take hx)
      clear hC hx hv hbd
      go_wp2_with (go_at_call 78; refine ((unhide HC) _ ((Fr.refl _ _).alloc hwr _) (World.ownsRow.alloc (unhide HW) _)).mono ?_; rintro e w2 ⟨v2, rfl, hown2, hf2⟩; have HO2 := hide hown2; have HF2 := hide hf2; clear hown2 hf2)
      go_roundw
      case rel => exact ⟨j + 1, by omega, by go_num, ownCast (unhide HO2) (by rw [unhide HTK]; simp; omega) (by rw [unhide HTK]; simp [Lib.byteCells]), ((unhide HG).alloc hwr _).trans (unhide HF2)⟩
      case measure => simp [intOf]; omega
    · have htl : l.take j = l := List.take_of_length_le (by rw [unhide HL]; omega)
      rw [htl] at HW
      have hwb := hwr
      clear htl
      go_wp2_with (at_builtin; refine wpList_append_own _ rfl _ _ 52 rfl w0.heap.size 5 i0 (.int .u8 0) 1 1 Tryz.underlying52 hi hz0 hz1 hz2 rfl (by decide) _ _ _ rfl (World.ownsRow.alloc (unhide HW) _) ⟨_, 0, none⟩ 1 1 [.int .u8 101] rfl rfl ?c1 ?c2 ?c3 ?c4 ?c5 ?_)
      case c1 => exact oneAt (by go_simp)
      case c2 => exact byteOne _
      case c3 => unfold maxLen; omega
      case c4 => omega
      case c5 => simp; omega
      intro v3 w3 hown3 hgrow3 _
      have HF3 : Hid (Fr w0.heap.size w w3) := ((unhide HG).alloc hwr _).grown (World.ownsRow.alloc (unhide HW) _) hgrow3 (by simp; omega)
      have HO3 := hide hown3; clear hown3 hgrow3
      go_wp2_with fail
      go_ret
      exact ⟨_, rfl, ownCast (unhide HO3) (by simp; omega) (by simp [Lib.byteCells]), unhide HF3⟩

set_option maxHeartbeats 1000000 in
theorem wlist_zero (k n : Int) (s : ByteArray) (A : Option Addr) (c : Nat) (A' : Option Addr) (m' c' : Nat) (B : Nat) (w : World) (bv : Value) (nn : Nat) (xs : List Value) (hB : B ≤ w.heap.size)
    (HO : Hid (w.ownsRow B 5 1 bv nn xs)) (hlim : nn ≤ 1000000000) :
    Calls Tryz.prog 145 #[bv, vaV k n s A 0 c A' m' c'] w (Wrote B w nn xs [108, 101]) := by
  obtain ⟨i0, hi, hz0, hz1, hz2⟩ := info_parts infoByte
  go_enter Tryz.func145, Tryz.ntmps145
  go_wp2_with (at_builtin; refine wpList_append_own _ rfl _ _ 52 rfl B 5 i0 (.int .u8 0) 1 1 Tryz.underlying52 hi hz0 hz1 hz2 rfl (by decide) _ _ _ rfl (World.ownsRow.alloc (World.ownsRow.alloc (unhide HO) _) _) ⟨_, 0, none⟩ 1 1 [.int .u8 108] rfl rfl ?c1 ?c2 ?c3 ?c4 ?c5 ?_)
  case c1 => exact oneAt (by go_simp)
  case c2 => exact byteOne _
  case c3 => unfold maxLen; omega
  case c4 => omega
  case c5 => simp; omega
  intro v1 w1 hown1 hgrow1 _
  have HF1 : Hid (Fr B (w.alloc (.cells #[.int .i64 k, .int .i64 n, .string s, .slice A 0 c, .slice A' m' c'] 66)) w1) :=
    ((Fr.refl _ _).alloc (by simp; omega) _).grown (World.ownsRow.alloc (World.ownsRow.alloc (unhide HO) _) _) hgrow1 (by simp; omega)
  have hw1 : B ≤ w1.heap.size := by have := hgrow1.size; simp at this; omega
  have hc1 : w1.cell? ⟨w.heap.size, 3, none⟩ = some (.slice A 0 c) := boxCell (unhide HF1) (by decide) 3
  have HG1 : Hid (Fr B w w1) := ((Fr.refl _ _).alloc hB _).trans (unhide HF1)
  have HO1 := hide hown1; clear hown1 hgrow1
  go_wp2_with fail
  go_loopw [0, 13] (fun v i wr => i = .int .i64 0 ∧ v = v1 ∧ wr = w1) (fun _ i _ => 0)
  case atStart => exact ⟨rfl, rfl, rfl⟩
  case round =>
    obtain ⟨rfl, rfl, rfl⟩ := hrel
    go_wp2_with (at_builtin; refine wpList_append_own _ rfl _ _ 52 rfl B 5 i0 (.int .u8 0) 1 1 Tryz.underlying52 hi hz0 hz1 hz2 rfl (by decide) _ _ _ rfl (World.ownsRow.alloc (unhide HO1) _) ⟨_, 0, none⟩ 1 1 [.int .u8 101] rfl rfl ?c1 ?c2 ?c3 ?c4 ?c5 ?_)
    case c1 => exact oneAt (by go_simp)
    case c2 => exact byteOne _
    case c3 => unfold maxLen; omega
    case c4 => omega
    case c5 => simp; omega
    intro v3 w3 hown3 hgrow3 _
    have HF3 : Hid (Fr B w w3) := ((unhide HG1).alloc hw1 _).grown (World.ownsRow.alloc (unhide HO1) _) hgrow3 (by simp; omega)
    have HO3 := hide hown3; clear hown3 hgrow3
    go_wp2_with fail
    go_ret
    exact ⟨_, rfl, ownCast (unhide HO3) (by simp) (by simp [Lib.byteCells]), unhide HF3⟩

set_option maxHeartbeats 1000000 in
theorem wdict_zero (k n : Int) (s : ByteArray) (A : Option Addr) (c : Nat) (A' : Option Addr) (m' c' : Nat) (B : Nat) (w : World) (bv : Value) (nn : Nat) (xs : List Value) (hB : B ≤ w.heap.size)
    (HO : Hid (w.ownsRow B 5 1 bv nn xs)) (hlim : nn ≤ 1000000000) :
    Calls Tryz.prog 146 #[bv, vaV k n s A m' c A' 0 c'] w (Wrote B w nn xs [100, 101]) := by
  obtain ⟨i0, hi, hz0, hz1, hz2⟩ := info_parts infoByte
  go_enter Tryz.func146, Tryz.ntmps146
  go_wp2_with (at_builtin; refine wpList_append_own _ rfl _ _ 52 rfl B 5 i0 (.int .u8 0) 1 1 Tryz.underlying52 hi hz0 hz1 hz2 rfl (by decide) _ _ _ rfl (World.ownsRow.alloc (World.ownsRow.alloc (unhide HO) _) _) ⟨_, 0, none⟩ 1 1 [.int .u8 100] rfl rfl ?c1 ?c2 ?c3 ?c4 ?c5 ?_)
  case c1 => exact oneAt (by go_simp)
  case c2 => exact byteOne _
  case c3 => unfold maxLen; omega
  case c4 => omega
  case c5 => simp; omega
  intro v1 w1 hown1 hgrow1 _
  have HF1 : Hid (Fr B (w.alloc (.cells #[.int .i64 k, .int .i64 n, .string s, .slice A m' c, .slice A' 0 c'] 66)) w1) :=
    ((Fr.refl _ _).alloc (by simp; omega) _).grown (World.ownsRow.alloc (World.ownsRow.alloc (unhide HO) _) _) hgrow1 (by simp; omega)
  have hw1 : B ≤ w1.heap.size := by have := hgrow1.size; simp at this; omega
  have hc1 : w1.cell? ⟨w.heap.size, 4, none⟩ = some (.slice A' 0 c') := boxCell (unhide HF1) (by decide) 4
  have HG1 : Hid (Fr B w w1) := ((Fr.refl _ _).alloc hB _).trans (unhide HF1)
  have HO1 := hide hown1; clear hown1 hgrow1
  go_wp2_with fail
  go_loopw [0, 13] (fun v i wr => i = .int .i64 0 ∧ v = v1 ∧ wr = w1) (fun _ i _ => 0)
  case atStart => exact ⟨rfl, rfl, rfl⟩
  case round =>
    obtain ⟨rfl, rfl, rfl⟩ := hrel
    go_wp2_with (at_builtin; refine wpList_append_own _ rfl _ _ 52 rfl B 5 i0 (.int .u8 0) 1 1 Tryz.underlying52 hi hz0 hz1 hz2 rfl (by decide) _ _ _ rfl (World.ownsRow.alloc (unhide HO1) _) ⟨_, 0, none⟩ 1 1 [.int .u8 101] rfl rfl ?c1 ?c2 ?c3 ?c4 ?c5 ?_)
    case c1 => exact oneAt (by go_simp)
    case c2 => exact byteOne _
    case c3 => unfold maxLen; omega
    case c4 => omega
    case c5 => simp; omega
    intro v3 w3 hown3 hgrow3 _
    have HF3 : Hid (Fr B w w3) := ((unhide HG1).alloc hw1 _).grown (World.ownsRow.alloc (unhide HO1) _) hgrow3 (by simp; omega)
    have HO3 := hide hown3; clear hown3 hgrow3
    go_wp2_with fail
    go_ret
    exact ⟨_, rfl, ownCast (unhide HO3) (by simp) (by simp [Lib.byteCells]), unhide HF3⟩

set_option maxHeartbeats 4000000 in
theorem wdict_rows (N : Nat) (ih : Hid (WrIs N)) (k n : Int) (s : ByteArray) (l : List Va) (ks : List ByteArray) (b o m c b' o' c' : Nat) (w0 w : World) (bv : Value) (nn : Nat) (xs : List Value)
    (HN : Hid (szAll l ≤ N)) (hm : m ≤ 140737488351232) (h0 : 0 < m) (HL : Hid (l.length = m)) (HK : Hid (ks.length = m)) (HF : Hid (wfAll l = true)) (hbw : b < w0.heap.size) (hbw' : b' < w0.heap.size)
    (HR : Hid (∀ i x, l[i]? = some x → ∃ k n s A1 m c A2 m' c', w0.cell? ⟨b, o + i * 5, none⟩ = some (.int .i64 k) ∧ w0.cell? ⟨b, o + i * 5 + 1, none⟩ = some (.int .i64 n) ∧
      w0.cell? ⟨b, o + i * 5 + 2, none⟩ = some (.string s) ∧ w0.cell? ⟨b, o + i * 5 + 3, none⟩ = some (.slice A1 m c) ∧ w0.cell? ⟨b, o + i * 5 + 4, none⟩ = some (.slice A2 m' c') ∧ VAt w0 x (vaV k n s A1 m c A2 m' c')))
    (HS : Hid (∀ i s, ks[i]? = some s → w0.cell? ⟨b', o' + i, none⟩ = some (.string s)))
    (HB : Hid (Below w0.heap.size w0 w)) (HT : Hid (Pow w0.heap.size w)) (HO : Hid (w.ownsRow w0.heap.size 5 1 bv nn xs)) (hlim : nn + (encD l ks).length + 2 ≤ 1000000000) :
    Calls Tryz.prog 146 #[bv, vaV k n s (some ⟨b, o, none⟩) m c (some ⟨b', o', none⟩) m c'] w (Wrote w0.heap.size w nn xs (100 :: encD l ks ++ [101])) := by
  obtain ⟨i0, hi, hz0, hz1, hz2⟩ := info_parts infoByte
  have hw0 : w0.heap.size ≤ w.heap.size := (unhide HB).size
  go_enter Tryz.func146, Tryz.ntmps146
  go_wp2_with (at_builtin; refine wpList_append_own _ rfl _ _ 52 rfl w0.heap.size 5 i0 (.int .u8 0) 1 1 Tryz.underlying52 hi hz0 hz1 hz2 rfl (by decide) _ _ _ rfl (World.ownsRow.alloc (World.ownsRow.alloc (unhide HO) _) _) ⟨_, 0, none⟩ 1 1 [.int .u8 100] rfl rfl ?c1 ?c2 ?c3 ?c4 ?c5 ?_)
  case c1 => exact oneAt (by go_simp)
  case c2 => exact byteOne _
  case c3 => unfold maxLen; omega
  case c4 => omega
  case c5 => simp; omega
  intro v1 w1 hown1 hgrow1 _
  have HF1 : Hid (Fr w0.heap.size (w.alloc (.cells #[.int .i64 k, .int .i64 n, .string s, .slice (some ⟨b, o, none⟩) m c, .slice (some ⟨b', o', none⟩) m c'] 66)) w1) :=
    ((Fr.refl _ _).alloc (by simp; omega) _).grown (World.ownsRow.alloc (World.ownsRow.alloc (unhide HO) _) _) hgrow1 (by simp; omega)
  have hw1 : w0.heap.size ≤ w1.heap.size := by have := hgrow1.size; simp at this; omega
  have hc1 : w1.cell? ⟨w.heap.size, 4, none⟩ = some (.slice (some ⟨b', o', none⟩) m c') := boxCell (unhide HF1) (by decide) 4
  have HO1 := hide hown1; clear hown1 hgrow1
  go_wp2_with fail
  go_loopw [0, 13] (fun v i wr => ∃ j : Nat, j ≤ m ∧ i = .int .i64 j ∧ wr.ownsRow w0.heap.size 5 1 v (nn + (1 + (encD (l.take j) (ks.take j)).length)) (xs ++ Lib.byteCells (100 :: encD (l.take j) (ks.take j))) ∧
      Fr w0.heap.size (w.alloc (.cells #[.int .i64 k, .int .i64 n, .string s, .slice (some ⟨b, o, none⟩) m c, .slice (some ⟨b', o', none⟩) m c'] 66)) wr) (fun _ i _ => m - (intOf i).toNat)
  case atStart => exact ⟨0, Nat.zero_le _, rfl, ownCast (unhide HO1) (by simp [encD]) (by simp [encD, Lib.byteCells]), unhide HF1⟩
  case round =>
    obtain ⟨j, hj, rfl, hown, hfr⟩ := hrel
    have HW := hide hown; have HG := hide hfr; clear hown hfr
    have hBr := hide ((unhide HB).trans (((Below.refl _ _).alloc hw0 _).trans (unhide HG).1))
    have hwr : w0.heap.size ≤ wr.heap.size := (unhide hBr).size
    by_cases hlt : j < m
    · obtain ⟨x, hx⟩ : ∃ x, l[j]? = some x := ⟨_, List.getElem?_eq_getElem (by rw [unhide HL]; exact hlt)⟩
      obtain ⟨q, hq⟩ : ∃ x, ks[j]? = some x := ⟨_, List.getElem?_eq_getElem (by rw [unhide HK]; exact hlt)⟩
      have hbd := encD_bound hx hq
      have hqs : q.size ≤ (encT q).length := by simp [encT, bytes_len]; omega
      have e0 := (unhide HS) j q hq
      rw [← (unhide hBr).cell (p := ⟨b', o' + j, none⟩) hbw'] at e0
      have hX := text_any w0.heap.size _ u0 _ q wr (unhide HW) hwr (by omega) (by omega) ((unhide HT).along ((((Below.refl _ _).alloc hw0 _).trans (unhide HG).1)))
      have HX := hide hX; have HXX := hide hx; have HQ := hide hq; have HBD := hide hbd
      clear hX hx hq hbd hqs
      go_wp2_with fail
      refine (unhide HX).mono ?_; rintro e w2 ⟨v2, rfl, hown2, hf2⟩
      have hBr2 := hide ((unhide hBr).trans hf2.1)
      have hw2 : w0.heap.size ≤ w2.heap.size := (unhide hBr2).size
      have HF2 := hide ((unhide HG).trans hf2)
      have hc2 : w2.cell? ⟨w.heap.size, 3, none⟩ = some (.slice (some ⟨b, o, none⟩) m c) := boxCell (unhide HF2) (by decide) 3
      obtain ⟨k1, n1, s1, A1, m1, c1, A2, m2, c2, d0, d1, d2, d3, d4, hv⟩ := (unhide HR) j x (unhide HXX)
      rw [← (unhide hBr2).cell (p := ⟨b, o + j * 5, none⟩) hbw] at d0
      rw [← (unhide hBr2).cell (p := ⟨b, o + j * 5 + 1, none⟩) hbw] at d1
      rw [← (unhide hBr2).cell (p := ⟨b, o + j * 5 + 2, none⟩) hbw] at d2
      rw [← (unhide hBr2).cell (p := ⟨b, o + j * 5 + 3, none⟩) hbw] at d3
      rw [← (unhide hBr2).cell (p := ⟨b, o + j * 5 + 4, none⟩) hbw] at d4
      have hC := (unhide ih) x (Nat.le_trans (szAll_mem (unhide HXX)) (unhide HN)) (wfAll_mem (unhide HF) (unhide HXX)) w0 w2 _ v2 _ _ hv (unhide hBr2) ((unhide HT).along (((Below.refl _ _).alloc hw0 _).trans (unhide HF2).1)) hown2 (by have := unhide HBD; omega)
      have HC := hide hC
      have HTK := hide (encD_take (unhide HXX) (unhide HQ))
      clear hC hown2 hf2 hv
      go_wp2_with fail
      refine (unhide HC).mono ?_; rintro e w3 ⟨v3, rfl, hown3, hf3⟩
      have HO3 := hide hown3; have HF3 := hide hf3; clear hown3 hf3
      go_wp2_with fail
      go_roundw
      case rel => exact ⟨j + 1, by omega, by go_num, ownCast (unhide HO3) (by rw [unhide HTK]; simp; omega) (by rw [unhide HTK]; simp [Lib.byteCells]), (unhide HF2).trans (unhide HF3)⟩
      case measure => simp [intOf]; omega
    · have htl : l.take j = l := List.take_of_length_le (by rw [unhide HL]; omega)
      have htk : ks.take j = ks := List.take_of_length_le (by rw [unhide HK]; omega)
      rw [htl, htk] at HW
      clear htl htk
      go_wp2_with (at_builtin; refine wpList_append_own _ rfl _ _ 52 rfl w0.heap.size 5 i0 (.int .u8 0) 1 1 Tryz.underlying52 hi hz0 hz1 hz2 rfl (by decide) _ _ _ rfl (World.ownsRow.alloc (unhide HW) _) ⟨_, 0, none⟩ 1 1 [.int .u8 101] rfl rfl ?c1 ?c2 ?c3 ?c4 ?c5 ?_)
      case c1 => exact oneAt (by go_simp)
      case c2 => exact byteOne _
      case c3 => unfold maxLen; omega
      case c4 => omega
      case c5 => simp; omega
      intro v3 w3 hown3 hgrow3 _
      have HF3 : Hid (Fr w0.heap.size w w3) := ((((Fr.refl _ _).alloc hw0 _).trans (unhide HG)).alloc hwr _).grown (World.ownsRow.alloc (unhide HW) _) hgrow3 (by simp; omega)
      have HO3 := hide hown3; clear hown3 hgrow3
      go_wp2_with fail
      go_ret
      exact ⟨_, rfl, ownCast (unhide HO3) (by simp; omega) (by simp [Lib.byteCells]), unhide HF3⟩
end Go.Proofs.YtdmaopfaeigelaaGreatDoor
