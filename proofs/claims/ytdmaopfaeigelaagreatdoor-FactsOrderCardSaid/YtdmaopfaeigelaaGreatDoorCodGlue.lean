/- What the laws of the codec take from its contracts: slices of bytes, Encode and Decode on them. -/
import Derived.Test.YtdmaopfaeigelaaGreatDoorCodDecode
namespace Go.Proofs.YtdmaopfaeigelaaGreatDoor
set_option linter.unusedSimpArgs false
set_option linter.unusedVariables false
open Go.RowKit

/-- a slice of bytes -/
def BAt (w : World) (bv : Value) (l : List UInt8) : Prop :=
  ∃ A c, bv = .slice A l.length c ∧ (A = none ∧ l = [] ∧ c = 0 ∨ ∃ g o, A = some ⟨g, o, none⟩ ∧ g < w.heap.size) ∧ l.length ≤ c ∧ c ≤ 9223372036854775807 ∧ RawAt w A l
theorem BAt.later {w W : World} {bv : Value} {l : List UInt8} (h : BAt w bv l) (hb : Below w.heap.size w W) : BAt W bv l := by
  obtain ⟨A, c, e, hA, h1, h2, h3⟩ := h
  exact ⟨A, c, e, hA.imp id (fun ⟨g, o, e, hg⟩ => ⟨g, o, e, Nat.lt_of_lt_of_le hg hb.size⟩), h1, h2, h3.later hb⟩
theorem BAt.nil (w : World) : BAt w (.slice none 0 0) [] := ⟨none, 0, rfl, .inl ⟨rfl, rfl, rfl⟩, Nat.le_refl _, by decide, fun i b h => by simp at h⟩
theorem byteCells_at {l : List UInt8} {i : Nat} {b : UInt8} (h : l[i]? = some b) : (Lib.byteCells l)[i]? = some (.int .u8 (b.toNat : Int)) := by
  unfold Lib.byteCells
  rw [List.getElem?_map, h]
  rfl
theorem BAt.own {w : World} {B : Nat} {bv : Value} {l : List UInt8} (h : w.ownsRow B 5 1 bv l.length (Lib.byteCells l)) : BAt w bv l := by
  have hl := h.1
  rcases h.2 with ⟨rfl, h0⟩ | ⟨g, cap, cur, rfl, hB, hc, h1, h2, _⟩
  · obtain rfl := List.length_eq_zero_iff.1 h0
    exact BAt.nil w
  · have hlt := (Array.getElem?_eq_some_iff.1 hc).1
    refine ⟨some ⟨g, 0, none⟩, cap, rfl, .inr ⟨g, 0, rfl, hlt⟩, h1, (by unfold maxLen at h2; omega), fun i b hi => ⟨g, 0, rfl, ?_⟩⟩
    have hil := (List.getElem?_eq_some_iff.1 hi).1
    rw [Nat.zero_add, h.cellAt _ (by omega)]
    exact byteCells_at hi
theorem BAt.conv {w : World} {bv : Value} {l : List UInt8} (h : BAt w bv l) : (convert 52 9 bv).run Tryz.prog w = .ok (.string ⟨l.toArray⟩) w := by
  obtain ⟨A, c, rfl, hA, _, _, hr⟩ := h
  rcases hA with ⟨rfl, rfl, rfl⟩ | ⟨g, o, rfl, hg⟩
  · exact run_convert_bytes_nil w 52 5 Tryz.underlying52 Tryz.underlying5 0 0 9 Tryz.underlying9
  · refine run_convert_bytes_back w 52 9 5 ⟨g, o, none⟩ c l Tryz.underlying52 Tryz.underlying5 Tryz.underlying9 fun j hj => ?_
    obtain ⟨g', o', e, hc⟩ := hr j _ (List.getElem?_eq_getElem hj)
    injection e with e
    injection e with e1 e2
    subst e1 e2
    have : (⟨g, o, none⟩ : Addr).add j = ⟨g, o + j, none⟩ := by
      unfold Addr.add
      split
      · rename_i e; simp [e]
      · rfl
    rw [this]
    exact hc
/-- the bytes of a string, as a conversion lays them -/
theorem BAt.made (w : World) (s : ByteArray) (c : Nat) (hc : s.size ≤ c) (hc2 : c ≤ maxLen) (fz : Nat × Nat) : BAt (w.drew.alloc (.cells (bytesRow s c) 5 fz)) (.slice (some ⟨w.heap.size, 0, none⟩) s.size c) s.data.toList := by
  have e : s.data.toList.length = s.size := by simp
  refine ⟨some ⟨w.heap.size, 0, none⟩, c, by rw [e], .inr ⟨w.heap.size, 0, rfl, by simp⟩, by rw [e]; exact hc, (by unfold maxLen at hc2; omega), fun i b hi => ⟨w.heap.size, 0, rfl, ?_⟩⟩
  have hil := (List.getElem?_eq_some_iff.1 hi).1
  have hil' : i < s.data.size := by simpa using hil
  have hb : s.data[i] = b := by
    rw [List.getElem?_eq_getElem hil] at hi
    simpa using hi
  rw [Nat.zero_add]
  show (w.drew.alloc _).cell? ⟨w.drew.heap.size, i, none⟩ = _
  rw [cell_of_row _ _ i _ _ _ (heap_alloc_new _ _), bytesRow_at s c i hil', hb]

theorem powOf {w : World} (hE : Env w) (hw : gTop ≤ w.heap.size) : Pow w.heap.size w := fun w'' h' => (hE w'' (h'.mono hw)).1
theorem Env.to {w W : World} (hE : Env w) (hw : gTop ≤ w.heap.size) (hb : Below w.heap.size w W) : Env W := hE.along (hb.mono hw)

theorem decode_b {w : World} {bv : Value} {l : List UInt8} (h : BAt w bv l) (hl : l.length ≤ 1000000000) (hE : Env w) (hw : gTop ≤ w.heap.size) : Calls Tryz.prog 27 #[bv] w (Decoded w (decF l)) := by
  obtain ⟨A, c, rfl, hA, h1, h2, h3⟩ := h
  exact decode_any A c l w hE hw h3 hA h1 h2 hl
def encF (V : Va) : List UInt8 := if chkE V = 0 then V.enc else []
def EncodedB (w : World) (V : Va) (e : Ending) (w' : World) : Prop := ∃ bv, e = .returned (.tuple #[bv, .int .i64 (chkE V)]) ∧ BAt w' bv (encF V) ∧ Below w.heap.size w w'
theorem encode_b {w : World} {V : Va} {v : Value} (h : VAt w V v) (hn : V.nest ≤ 1000) (hlim : V.enc.length ≤ 1000000000) (hE : Env w) (hw : gTop ≤ w.heap.size) : Calls Tryz.prog 39 #[v] w (EncodedB w V) := by
  refine (encode_any V hn hlim v w h (powOf hE hw)).mono ?_
  rintro e w' ⟨bv, rfl, ho, hb⟩
  refine ⟨bv, rfl, ?_, hb⟩
  unfold encF
  split
  · rename_i h0
    rw [if_pos h0, if_pos h0] at ho
    exact BAt.own ho
  · rename_i h0
    rw [if_neg h0, if_neg h0] at ho
    exact BAt.own (l := []) ho

/-! Decode and Encode, as functions on values -/
theorem decF_enc {V : Va} (h1 : chkE V = 0) (h2 : V.bd) : decF V.enc = some V := by
  have hwf : V.wf = true := by
    unfold chkE at h1
    cases hq : V.wf
    · simp [hq] at h1
    · rfl
  have hd : V.dep ≤ 16 := by
    unfold chkE at h1
    rw [hwf] at h1
    simp only [if_true] at h1
    split at h1
    · assumption
    · cases h1
  have := forw hwf h2 hd []
  rw [List.append_nil] at this
  unfold decF
  rw [this]
theorem decF_some {l : List UInt8} {V : Va} (h : decF l = some V) : chkE V = 0 ∧ l = V.enc := by
  unfold decF at h
  split at h
  · rename_i W hq
    injection h with h
    subst h
    obtain ⟨h1, h2, h3⟩ := valP_back 16 _ _ _ hq
    rw [List.append_nil] at h3
    exact ⟨by unfold chkE; rw [h1]; simp [h2], h3⟩
  · cases h
end Go.Proofs.YtdmaopfaeigelaaGreatDoor
