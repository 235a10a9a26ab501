/- Contracts over the program of lexis: classes of bytes, spans, signs, words, integers. -/
import Derived.Test.YtjppjbkndfbnhaaDoorChecked
import Derived.Test.YtjppjbkndfbnhaaDoorLexShelf
import Derived.Test.YtjppjbkndfbnhaaDoorLexMath
import Derived.WalkKit
import Derived.ProofKit
import Derived.Handy
import Derived.Deep.QuietTactic
import Derived.BigQuiet
import Derived.Lib.Hide
import Derived.Outline
import Derived.OwnWalk
import Derived.Maps.AppendAt
import Derived.WalkSpells
namespace Go.Proofs.YtjppjbkndfbnhaaDoor
set_option linter.unusedSimpArgs false
set_option linter.unusedVariables false
open Go.RowKit

theorem hide {p : Prop} (h : p) : Hid p := h
theorem unhide {p : Prop} (h : Hid p) : p := h
theorem thenB {W w1 w2 : World} (h1 : Below W.heap.size W w1) (h2 : Below w1.heap.size w1 w2) : Below W.heap.size W w2 := h1.trans (h2.mono h1.size)
theorem belowDrewN {B : Nat} {a w : World} (n : Nat) (h : Below B a w) : Below B a (w.drewN n) := ⟨h.os, h.tape, h.output, h.size, h.block⟩
theorem lt_of_cell {w : World} {a : Addr} {v : Value} (h : w.cell? a = some v) : a.block < w.heap.size := World.block_lt_of_cell? w a h
theorem cell_block {w w' : World} {b o : Nat} (h : w'.heap[b]? = w.heap[b]?) : w'.cell? ⟨b, o, none⟩ = w.cell? ⟨b, o, none⟩ := by
  unfold World.cell?
  rw [h]
theorem retI {k : IntKind} {a b : Int} (h : a = b) : Ending.returned (.int k a) = .returned (.int k b) := by rw [h]
theorem retB {a b : Bool} (h : a = b) : Ending.returned (.bool a) = .returned (.bool b) := by rw [h]

/-- the bytes of a text -/
abbrev L (s : ByteArray) : List Lx.B := s.data.toList
theorem L_len (s : ByteArray) : (L s).length = s.size := by simp [L]
theorem L_getD (s : ByteArray) (k : Nat) (h : k < s.size) : (L s).getD k 0 = s[k] := by
  rw [List.getD_eq_getElem?_getD, List.getElem?_eq_getElem (by rw [L_len]; exact h)]
  rfl
theorem L_drop (s : ByteArray) (k : Nat) (h : k < s.size) : (L s).drop k = s[k] :: (L s).drop (k + 1) := by
  rw [List.drop_eq_getElem_cons (by rw [L_len]; exact h)]
  rfl
theorem L_extract (s : ByteArray) (a b : Nat) : L (s.extract a b) = ((L s).take b).drop a := by
  unfold L
  rw [ByteArray.data_extract]
  simp [Array.toList_extract, List.extract_eq_take_drop, List.drop_take]
theorem L_tail (s : ByteArray) (a : Nat) : L (s.extract a s.size) = (L s).drop a := by
  rw [L_extract, List.take_of_length_le (by rw [L_len]; exact Nat.le_refl _)]
theorem L_eq {a b : ByteArray} (h : L a = L b) : a = b := ByteArray.ext (Array.toList_inj.1 h)
theorem L_mk (l : List Lx.B) : L ⟨l.toArray⟩ = l := by simp [L]

/-- the classes of bytes, as the program's table holds them -/
structure Tab (w : World) : Prop where
  cell : ∀ j, j < 128 → w.cell? ⟨0, j, none⟩ = some (.int .u8 ((Lx.clsT.getD j 0 : Nat) : Int))
  lt : 0 < w.heap.size
theorem Tab.keep {w w' : World} (h : Tab w) (hb : Below w.heap.size w w') : Tab w' :=
  ⟨fun j hj => by rw [cell_block (hb.block _ h.lt)]; exact h.cell j hj, Nat.lt_of_lt_of_le h.lt hb.size⟩

set_option maxRecDepth 100000 in
theorem classOf_any (c : Lx.B) (w : World) (hT : Tab w) : Calls Tryd.prog 39 #[.int .u8 (c.toNat : Int)] w fun e w' => e = .returned (.int .u8 (Lx.cls c : Int)) ∧ w' = w := by
  have h255 : c.toNat < 256 := c.toNat_lt
  have hh := Lx.cls_high c
  have hc := hT.cell c.toNat
  change _ → w.cell? _ = some (.int .u8 (Lx.cls c : Int)) at hc
  generalize Lx.cls c = v at hc hh
  generalize c.toNat = n at hc h255 hh
  by_cases h : n < 128
  · have hc' := hc h
    clear hc hh
    go_enter Tryd.func39, Tryd.ntmps39
    go_wp2
    go_ret
    exact ⟨rfl, rfl⟩
  · have hv := hh (by omega)
    subst hv
    clear hc hh
    go_enter Tryd.func39, Tryd.ntmps39
    go_wp2
    go_ret
    exact ⟨rfl, rfl⟩

/-- the bytes of some classes -/
def inB (of : Nat) (c : Lx.B) : Bool := bits BinOp.and IntKind.u8 (Lx.cls c : Int) (of : Int) != 0
theorem cls_lt (c : Lx.B) : Lx.cls c < 256 := by
  have := Lx.cls_mem c
  simp only [List.mem_cons, List.not_mem_nil, or_false] at this
  omega
set_option maxHeartbeats 1000000 in
theorem span_any (s : ByteArray) (of : Nat) (hof : of < 256) (w : World) (hT : Tab w) (hs : s.size ≤ 140737488351232) :
    Calls Tryd.prog 42 #[.string s, .int .u8 (of : Int)] w fun e w' => e = .returned (.int .i64 (Lx.spanN (inB of) (L s) : Int)) ∧ w' = w := by
  have HT := hide hT
  clear hT
  go_enter Tryd.func42, Tryd.ntmps42
  go_wp2_with fail
  go_loop [4] (fun i => ∃ k : Nat, k ≤ s.size ∧ Lx.spanN (inB of) (L s) = k + Lx.spanN (inB of) ((L s).drop k) ∧ i = .int .i64 (k : Int)) (fun i => s.size - (intOf i).toNat)
  case atStart => exact ⟨0, Nat.zero_le _, by rw [List.drop_zero]; omega, rfl⟩
  case round =>
    obtain ⟨k, hk, hs', rfl⟩ := hrel
    have HS := hide hs'
    clear hs'
    by_cases hlt : k < s.size
    · have hd := L_drop s k hlt
      have HD := hide hd
      clear hd
      cases hb : inB of s[k]
      · have HB := hide hb
        unfold inB at hb
        go_wp2_with fail
        refine (classOf_any _ _ (unhide HT)).mono ?_; rintro e w' ⟨rfl, rfl⟩
        go_wp2_with fail
        go_ret
        exact ⟨retI (by rw [unhide HS, unhide HD, Lx.spanN_cons_neg (by rw [unhide HB]; decide)]; simp), rfl⟩
      · have HB := hide hb
        unfold inB at hb
        go_wp2_with fail
        refine (classOf_any _ _ (unhide HT)).mono ?_; rintro e w' ⟨rfl, rfl⟩
        go_wp2_with fail
        go_round
        case rel => exact ⟨k + 1, by omega, by rw [unhide HS, unhide HD, Lx.spanN_cons_pos (unhide HB)]; omega, by go_num⟩
        case measure => simp [intOf]; omega
    · go_wp2_with fail
      go_ret
      exact ⟨retI (by rw [unhide HS, List.drop_of_length_le (by rw [L_len]; omega)]; simp [Lx.spanN]), rfl⟩
theorem inB_let : inB 1 = Lx.isLet := by
  funext c
  have := Lx.cls_mem c
  unfold inB Lx.isLet
  generalize Lx.cls c = v at this
  simp only [List.mem_cons, List.not_mem_nil, or_false] at this
  rcases this with rfl | rfl | rfl | rfl | rfl | rfl | rfl | rfl | rfl <;> rfl
theorem inB_dig : inB 2 = Lx.isDig := by
  funext c
  have := Lx.cls_mem c
  unfold inB Lx.isDig
  generalize Lx.cls c = v at this
  simp only [List.mem_cons, List.not_mem_nil, or_false] at this
  rcases this with rfl | rfl | rfl | rfl | rfl | rfl | rfl | rfl | rfl <;> rfl
theorem inB_inn : inB 7 = Lx.isInn := by
  funext c
  have := Lx.cls_mem c
  unfold inB Lx.isInn
  generalize Lx.cls c = v at this
  simp only [List.mem_cons, List.not_mem_nil, or_false] at this
  rcases this with rfl | rfl | rfl | rfl | rfl | rfl | rfl | rfl | rfl <;> rfl
theorem span_let (s : ByteArray) (w : World) (hT : Tab w) (hs : s.size ≤ 140737488351232) :
    Calls Tryd.prog 42 #[.string s, .int .u8 1] w fun e w' => e = .returned (.int .i64 (Lx.spanN Lx.isLet (L s) : Int)) ∧ w' = w := by
  rw [← inB_let]; exact span_any s 1 (by decide) w hT hs
theorem span_dig (s : ByteArray) (w : World) (hT : Tab w) (hs : s.size ≤ 140737488351232) :
    Calls Tryd.prog 42 #[.string s, .int .u8 2] w fun e w' => e = .returned (.int .i64 (Lx.spanN Lx.isDig (L s) : Int)) ∧ w' = w := by
  rw [← inB_dig]; exact span_any s 2 (by decide) w hT hs
theorem span_inn (s : ByteArray) (w : World) (hT : Tab w) (hs : s.size ≤ 140737488351232) :
    Calls Tryd.prog 42 #[.string s, .int .u8 7] w fun e w' => e = .returned (.int .i64 (Lx.spanN Lx.isInn (L s) : Int)) ∧ w' = w := by
  rw [← inB_inn]; exact span_any s 7 (by decide) w hT hs

theorem visible_any (c : Lx.B) (w : World) : Calls Tryd.prog 63 #[.int .u8 (c.toNat : Int)] w fun e w' => e = .returned (.bool (Lx.vis c)) ∧ w' = w := by
  have h255 : c.toNat < 256 := c.toNat_lt
  have he : Lx.vis c = (decide (32 ≤ c.toNat) && decide (c.toNat ≤ 126)) := rfl
  rw [he]
  clear he
  generalize c.toNat = n at h255
  by_cases h1 : 32 ≤ n
  · by_cases h2 : n ≤ 126
    · rw [decide_eq_true h1, decide_eq_true h2]
      go_enter Tryd.func63, Tryd.ntmps63
      go_wp2
      go_ret
      exact ⟨by simp <;> omega, rfl⟩
    · rw [decide_eq_true h1, decide_eq_false h2]
      go_enter Tryd.func63, Tryd.ntmps63
      go_wp2
      go_ret
      exact ⟨by simp <;> omega, rfl⟩
  · rw [decide_eq_false h1]
    go_enter Tryd.func63, Tryd.ntmps63
    go_wp2
    go_ret
    exact ⟨by simp <;> omega, rfl⟩

theorem comment_any (s : ByteArray) (w : World) : Calls Tryd.prog 40 #[.string s] w fun e w' => e = .returned (.int .i64 (if 0 ≤ Lib.indexByte (L s) 10 then Lib.indexByte (L s) 10 else (s.size : Int))) ∧ w' = w := by
  have hA := Tryd.strings_IndexByte s 10 w
  change Calls _ _ _ w (fun e w' => e = .returned (.int .i64 (Lib.indexByte (L s) 10)) ∧ w' = w) at hA
  generalize Lib.indexByte (L s) 10 = i at hA
  have HA := hide hA
  clear hA
  by_cases h : 0 ≤ i
  · rw [if_pos h]
    go_enter Tryd.func40, Tryd.ntmps40
    go_wp2_with fail
    refine (unhide HA).mono ?_; rintro e w' ⟨rfl, rfl⟩
    go_wp2_with fail
    go_ret
    exact ⟨rfl, rfl⟩
  · rw [if_neg h]
    go_enter Tryd.func40, Tryd.ntmps40
    go_wp2_with fail
    refine (unhide HA).mono ?_; rintro e w' ⟨rfl, rfl⟩
    go_wp2_with fail
    go_ret
    exact ⟨rfl, rfl⟩
end Go.Proofs.YtjppjbkndfbnhaaDoor
