/- Contracts over the program of money: Text. -/
import Derived.Test.YthbdhlcimgiemaaDoorMonLib
import Derived.Test.YthbdhlcimgiemaaDoorMonSplit
import Derived.Lib.SlBytesRow
namespace Go.Proofs.YthbdhlcimgiemaaDoor
set_option linter.unusedSimpArgs false
set_option linter.unusedVariables false
open Go.RowKit

/-- the text of an amount -/
def tailU (u : Nat) : List UInt8 := [46, UInt8.ofNat (48 + u % 100 / 10), UInt8.ofNat (48 + u % 10)]
def textU (u : Nat) : List UInt8 := Lib.decDigits (u / 100) ++ tailU u
def textB (n : Int) : List UInt8 := if n < 0 then 45 :: textU n.natAbs else textU n.natAbs
def textS (n : Int) : ByteArray := ⟨(textB n).toArray⟩
theorem noDot_textU (u : Nat) : noDot (textU u) = Lib.decDigits (u / 100) ++ [UInt8.ofNat (48 + u % 100 / 10), UInt8.ofNat (48 + u % 10)] :=
  noDot_at fun x hx e => by have := dd_mem _ x hx; rw [e] at this; exact absurd this.1 (by decide)
theorem noDot_textN (u : Nat) : noDot (45 :: textU u) = 45 :: (Lib.decDigits (u / 100) ++ [UInt8.ofNat (48 + u % 100 / 10), UInt8.ofNat (48 + u % 10)]) :=
  noDot_at (a := 45 :: Lib.decDigits (u / 100)) fun x hx e => by
    rcases List.mem_cons.1 hx with h | h
    · rw [e] at h; exact absurd h (by decide)
    · have := dd_mem _ x h; rw [e] at this; exact absurd this.1 (by decide)
theorem mag_text {u : Nat} (h : u ≤ 1125899906842624) : Lib.parseMag (Lib.decDigits (u / 100) ++ [UInt8.ofNat (48 + u % 100 / 10), UInt8.ofNat (48 + u % 10)]) = .ok u := by
  unfold Lib.parseMag
  rw [if_neg (by simp), pu_digits _ _ (by omega)]
  have h1 : u % 100 / 10 < 10 := by omega
  have h2 : u % 10 < 10 := by omega
  simp only [Lib.parseUint10, dig_toNat h1, dig_toNat h2]
  rw [if_pos (by omega), if_neg (by omega), if_neg (by omega), if_pos (by omega), if_neg (by omega), if_neg (by omega)]
  congr 1
  omega
theorem atoi_text {n : Int} (h : Am n) : Lib.atoiAll (noDot (textB n)) = .ok n := by
  obtain ⟨h1, h2⟩ := h
  unfold textB
  by_cases hn : n < 0
  · rw [if_pos hn, noDot_textN, Lib.atoiAll_minus, mag_text (by omega)]
    show (if 9223372036854775808 < n.natAbs then Lib.NumEnd.range else Lib.NumEnd.ok (-(n.natAbs : Int))) = _
    rw [if_neg (by omega)]
    congr 1
    omega
  · rw [if_neg hn, noDot_textU]
    have hne := dd_ne (n.natAbs / 100)
    have hmem := dd_mem (n.natAbs / 100)
    have hmag := mag_text (u := n.natAbs) (by omega)
    cases hd : Lib.decDigits (n.natAbs / 100) with
    | nil => exact absurd hd hne
    | cons c r =>
      rw [hd] at hmem hmag
      have hc := hmem c List.mem_cons_self
      rw [List.cons_append] at hmag ⊢
      rw [Lib.atoiAll_plain c _ (by omega) (by omega), hmag]
      show (if 9223372036854775808 ≤ n.natAbs then Lib.NumEnd.range else Lib.NumEnd.ok (n.natAbs : Int)) = _
      rw [if_neg (by omega)]
      congr 1
      omega
theorem textB_inj {n m : Int} (hn : Am n) (hm : Am m) (h : textS n = textS m) : n = m := by
  have e : textB n = textB m := by
    unfold textS at h
    have := congrArg (fun s : ByteArray => s.data.toList) h
    simpa using this
  have h1 := atoi_text hn
  rw [e, atoi_text hm] at h1
  injection h1 with h1
  exact h1.symm

/-- how Text ends -/
def TextIs (n : Int) (w : World) (e : Ending) (w' : World) : Prop := e = .returned (.tuple #[.string (textS n), .int .i64 0]) ∧ Below w.heap.size w w'
theorem text_no (n : Int) (w : World) (h : ¬ Am n) :
    Calls Tryd.prog 20 #[.int .i64 n] w fun e w' => e = .returned (.tuple #[.string ⟨#[]⟩, .int .i64 50]) ∧ w' = w := by
  go_enter Tryd.func20, Tryd.ntmps20
  go_wp2_with fail
  refine (check_no n _ h).mono ?_; rintro e w' ⟨rfl, rfl⟩
  go_wp2_with fail
  go_ret2
  exact ⟨rfl, rfl⟩
theorem infoByte : (Tryd.prog.info? 5).map (fun i => (i.zero, i.size, i.bytes)) = some (some (.int .u8 0), 1, 1) := by kernel_rfl
theorem byteOne (u : Int) : ∀ v ∈ [Value.int .u8 u], v.oneCell' = true := by
  intro v hv
  rw [List.mem_singleton.1 hv]
  rfl
theorem oneAt {w : World} {g : Nat} {v : Value} (h : w.cell? ⟨g, 0, none⟩ = some v) : ∀ (j : Nat) (u : Value), [v][j]? = some u → w.cell? ((⟨g, 0, none⟩ : Addr).add j) = some u := by
  intro j u hj
  match j, hj with
  | 0, hj => simp at hj; subst hj; exact h
  | j + 1, hj => simp at hj
theorem threeAt {w : World} {g : Nat} {x y z : Value} (h0 : w.cell? ⟨g, 0, none⟩ = some x) (h1 : w.cell? ⟨g, 1, none⟩ = some y) (h2 : w.cell? ⟨g, 2, none⟩ = some z) : ∀ (j : Nat) (u : Value), [x, y, z][j]? = some u → w.cell? ((⟨g, 0, none⟩ : Addr).add j) = some u := by
  intro j u hj
  match j, hj with
  | 0, hj => simp at hj; subst hj; exact h0
  | 1, hj => simp at hj; subst hj; exact h1
  | 2, hj => simp at hj; subst hj; exact h2
  | j + 3, hj => simp at hj
/-- what stands behind the sign is written -/
def TailIs (w : World) (l : List UInt8) (e : Ending) (w' : World) : Prop := e = .returned (.tuple #[.string ⟨l.toArray⟩, .int .i64 0]) ∧ Below w.heap.size w w'
theorem conv_row {w : World} {B n : Nat} {v : Value} {l : List UInt8} (h : w.ownsRow B 5 1 v n (Lib.byteCells l)) (hl : l ≠ []) :
    (convert 44 9 v).run Tryd.prog w = .ok (.string ⟨l.toArray⟩) w := by
  rcases h.2 with ⟨rfl, h0⟩ | ⟨g, cap, cur, rfl, _⟩
  · have := h.1
    rw [h0] at this
    simp [Lib.byteCells] at this
    exact absurd this hl
  · have hn : n = l.length := by have := h.1; rw [Lib.byteCells_length] at this; omega
    have hb : Lib.Bytes w g 0 ⟨l.toArray⟩ := fun i hi => by
      have hi' : i < l.length := hi
      rw [Nat.zero_add, h.cellAt i (by omega)]
      simp [Lib.byteCells, hi']
      rfl
    have := Lib.run_convert_whole (P := Tryd.prog) w 44 5 9 Tryd.underlying44 Tryd.underlying5 Tryd.underlying9 g 0 ⟨l.toArray⟩ hb cap
    rw [hn]
    exact this
theorem itoa_len {u : Nat} (h : (u : Int) ≤ 1125899906842624) : (Lib.itoa ((u : Int) / 100)).length ≤ 21 := Lib.itoa_length_le _ (by omega) (by omega)
theorem cells_text (u : Nat) : Lib.byteCells (textU u) = Lib.byteCells (Lib.itoa ((u : Int) / 100)) ++ [.int .u8 46, .int .u8 (48 + (u : Int) % 100 / 10), .int .u8 (48 + (u : Int) % 10)] := by
  unfold textU
  rw [Lib.byteCells_append, show (u : Int) / 100 = ((u / 100 : Nat) : Int) by omega, Lib.itoa_nonneg]
  congr 1
  unfold tailU Lib.byteCells
  simp only [List.map_cons, List.map_nil]
  rw [dig_toNat (by omega), dig_toNat (by omega)]
  rfl
set_option maxRecDepth 100000 in
set_option maxHeartbeats 4000000 in
theorem text_pos (n : Int) (w : World) (h : Am n) (hn : 0 ≤ n) (hE : Env w) : Calls Tryd.prog 20 #[.int .i64 n] w (TextIs n w) := by
  obtain ⟨i0, hi, hz0, hz1, hz2⟩ := info_parts infoByte
  obtain ⟨u, rfl⟩ : ∃ u : Nat, n = (u : Int) := ⟨n.toNat, by omega⟩
  have ht : textS (u : Int) = ⟨(textU u).toArray⟩ := by unfold textS textB; rw [if_neg (by omega)]; rfl
  unfold TextIs
  rw [ht]
  have h2 := h.2
  have hm : IntKind.i64.wrap (u : Int) = (u : Int) := IntWalk.i64_in _ (by omega)
  have hA := Tryd.strconv_AppendInt_10 w.heap.size 0 ((u : Int) / 100) (by omega) (by omega) (.slice none 0 0) [] w (World.ownsRow_nil _ _ _ _) (Nat.le_refl _) (by omega) (fun w' h' => (hE.all w' (h'.mono hE.top)).pow)
  have HA := hide hA
  have HE := hide hE
  clear hA hE ht
  go_enter Tryd.func20, Tryd.ntmps20
  go_wp2_with fail
  refine (check_ok _ _ h).mono ?_; rintro e w' ⟨rfl, rfl⟩
  go_wp2_with fail
  refine (sign_pos _ _ hn).mono ?_; rintro e w' ⟨rfl, rfl⟩
  go_wp2_with fail
  refine (unhide HA).mono ?_; rintro e w1 ⟨v1, rfl, hown, hb1, _⟩
  have HO := hide hown
  have HB1 := hide hb1
  clear hown hb1
  go_wp2_with (at_builtin; refine wpList_append_own _ rfl _ _ 44 rfl w'.heap.size 5 i0 (.int .u8 0) 1 1 Tryd.underlying44 hi hz0 hz1 hz2 rfl (by decide) _ _ _ rfl (World.ownsRow.alloc (unhide HO) _) ⟨_, 0, none⟩ 3 3 [.int .u8 46, .int .u8 (48 + (u : Int) % 100 / 10), .int .u8 (48 + (u : Int) % 10)] rfl rfl ?c1 ?c2 ?c3 ?c4 ?c5 ?_)
  case c1 => exact threeAt (by go_simp) (by go_simp) (by go_simp)
  case c2 => intro v hv; simp at hv; rcases hv with rfl | rfl | rfl <;> rfl
  case c3 => have := itoa_len (u := u) h2; unfold maxLen; omega
  case c4 => have := itoa_len (u := u) h2; omega
  case c5 => have := (unhide HB1).size; simp; omega
  intro v2 w2 hown hgrow _
  have hr : w2.ownsRow w'.heap.size 5 1 v2 ((Lib.itoa ((u : Int) / 100)).length + 3) (Lib.byteCells (textU u)) := by
    rw [cells_text]; exact hown
  have HB2 := hide ((((unhide HB1).alloc (unhide HB1).size _).grown hgrow (by have := (unhide HB1).size; simp; omega) (fun k hk => ((unhide HO).lt k hk).1)))
  have hcv := conv_row hr (by unfold textU tailU; simp)
  clear hown hgrow hr
  go_wp2_with fail
  go_ret2
  exact ⟨rfl, unhide HB2⟩

set_option maxRecDepth 100000 in
set_option maxHeartbeats 4000000 in
theorem text_neg (n : Int) (w : World) (h : Am n) (hn : n < 0) (hE : Env w) : Calls Tryd.prog 20 #[.int .i64 n] w (TextIs n w) := by
  obtain ⟨i0, hi, hz0, hz1, hz2⟩ := info_parts infoByte
  obtain ⟨u, hu⟩ : ∃ u : Nat, n.natAbs = u := ⟨_, rfl⟩
  have ht : textS n = ⟨(45 :: textU u).toArray⟩ := by unfold textS textB; rw [if_pos hn, hu]
  unfold TextIs
  rw [ht]
  have h1 := h.1
  have h2 : (u : Int) ≤ 1125899906842624 := by omega
  have hm : IntKind.i64.wrap (-1 * n) = (u : Int) := by
    rw [show -1 * n = (u : Int) by omega]
    exact IntWalk.i64_in _ (by omega)
  have hm2 : IntKind.i64.wrap (-n) = (u : Int) := by
    rw [show -n = (u : Int) by omega]
    exact IntWalk.i64_in _ (by omega)
  have hA := fun (v : Value) (w1 : World) (hB : Below w.heap.size w w1) (hown : w1.ownsRow w.heap.size 5 1 v 1 [.int .u8 45]) => Tryd.strconv_AppendInt_10 w.heap.size 1 ((u : Int) / 100) (by omega) (by omega) v [.int .u8 45] w1 hown hB.size (by omega) (fun w' h' => (hE.all w' ((hB.trans h').mono hE.top)).pow)
  have HA := hide hA
  have hu0 : (0 : Int) ≤ (u : Int) := Int.natCast_nonneg _
  clear hA hE ht hu
  go_enter Tryd.func20, Tryd.ntmps20
  go_wp2_with fail
  refine (check_ok _ _ h).mono ?_; rintro e w' ⟨rfl, rfl⟩
  go_wp2_with (at_builtin; refine wpList_append_own _ rfl _ _ 44 rfl w'.heap.size 5 i0 (.int .u8 0) 1 1 Tryd.underlying44 hi hz0 hz1 hz2 rfl (by decide) _ _ _ rfl ((World.ownsRow_nil w' _ _ _).alloc _) ⟨_, 0, none⟩ 1 1 [.int .u8 45] rfl rfl ?d1 ?d2 ?d3 ?d4 ?d5 ?_)
  case d1 => exact oneAt (by go_simp)
  case d2 => exact byteOne _
  case d3 => unfold maxLen; omega
  case d4 => omega
  case d5 => simp
  intro v0 w0 hown0 hgrow0 _
  have hB0 : Below w'.heap.size w' w0 := ((Below.refl _ _).alloc (Nat.le_refl _) _).grown hgrow0 (by simp) (fun k hk => by cases hk)
  have HA1 := hide ((unhide HA) v0 w0 hB0 hown0)
  have HB0 := hide hB0
  clear hown0 hgrow0 hB0
  go_wp2_with fail
  refine (sign_neg _ _ hn).mono ?_; rintro e wx ⟨rfl, rfl⟩
  go_wp2_with fail
  refine (unhide HA1).mono ?_; rintro e w1 ⟨v1, rfl, hown, hb1, _⟩
  have HO := hide hown
  have HB1 := hide ((unhide HB0).trans hb1)
  clear hown hb1
  go_wp2_with (at_builtin; refine wpList_append_own _ rfl _ _ 44 rfl w'.heap.size 5 i0 (.int .u8 0) 1 1 Tryd.underlying44 hi hz0 hz1 hz2 rfl (by decide) _ _ _ rfl (World.ownsRow.alloc (unhide HO) _) ⟨_, 0, none⟩ 3 3 [.int .u8 46, .int .u8 (48 + (u : Int) % 100 / 10), .int .u8 (48 + (u : Int) % 10)] rfl rfl ?c1 ?c2 ?c3 ?c4 ?c5 ?_)
  case c1 => exact threeAt (by go_simp) (by go_simp) (by go_simp)
  case c2 => intro v hv; simp at hv; rcases hv with rfl | rfl | rfl <;> rfl
  case c3 => have := itoa_len (u := u) h2; unfold maxLen; omega
  case c4 => have := itoa_len (u := u) h2; omega
  case c5 => have := (unhide HB1).size; simp; omega
  intro v2 w2 hown hgrow _
  have hr : w2.ownsRow w'.heap.size 5 1 v2 (1 + (Lib.itoa ((u : Int) / 100)).length + 3) (Lib.byteCells (45 :: textU u)) := by
    rw [show Lib.byteCells (45 :: textU u) = .int .u8 45 :: Lib.byteCells (textU u) from rfl, cells_text]; exact hown
  have HB2 := hide ((((unhide HB1).alloc (unhide HB1).size _).grown hgrow (by have := (unhide HB1).size; simp; omega) (fun k hk => ((unhide HO).lt k hk).1)))
  have hcv := conv_row hr (by simp)
  clear hown hgrow hr
  go_wp2_with fail
  go_ret2
  exact ⟨rfl, unhide HB2⟩
theorem text_any (n : Int) (w : World) (h : Am n) (hE : Env w) : Calls Tryd.prog 20 #[.int .i64 n] w (TextIs n w) := by
  by_cases hn : n < 0
  · exact text_neg n w h hn hE
  · exact text_pos n w h (by omega) hE
end Go.Proofs.YthbdhlcimgiemaaDoor
