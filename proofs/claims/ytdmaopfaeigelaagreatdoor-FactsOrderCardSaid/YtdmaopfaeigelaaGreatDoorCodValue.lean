/- Contracts over the codec's program, each for all bytes: the reader's value. (Written by wip/tools/gen_value.py.) -/
import Derived.Test.YtdmaopfaeigelaaGreatDoorCodDict
namespace Go.Proofs.YtdmaopfaeigelaaGreatDoor
set_option linter.unusedSimpArgs false
set_option linter.unusedVariables false
open Go.RowKit

theorem list_bad (w : World) (rb : Nat) : Calls Tryz.prog 104 #[.pointer (some ⟨rb, 0, none⟩), .int .i64 0] w (Dead rb w) := by
  go_enter Tryz.func104, Tryz.ntmps104
  go_wp2_with fail
  refine (open_bad 0 _ rb (by omega)).mono ?_; rintro e w1 ⟨rfl, hg⟩
  go_wp2_with fail
  exact ⟨rfl, rfl, World.grownBy.trans (World.grownBy_alloc w _ (some rb)) hg⟩
theorem dict_bad (w : World) (rb : Nat) : Calls Tryz.prog 105 #[.pointer (some ⟨rb, 0, none⟩), .int .i64 0] w (Dead rb w) := by
  go_enter Tryz.func105, Tryz.ntmps105
  go_wp2_with fail
  refine (open_bad 0 _ rb (by omega)).mono ?_; rintro e w1 ⟨rfl, hg⟩
  go_wp2_with fail
  exact ⟨rfl, rfl, World.grownBy.trans (World.grownBy_alloc w _ (some rb)) hg⟩
theorem value_nil (d : Int) (w : World) (rb : Nat) (h : RdAt w rb []) : Calls Tryz.prog 59 #[.pointer (some ⟨rb, 0, none⟩), .int .i64 d] w (Dead rb w) := by
  have HF := hide (fun (W : World) (hW : Below w.heap.size w W) => first_nil W rb (h.below hW)); clear h
  go_enter Tryz.func59, Tryz.ntmps59
  go_wp2_with fail
  refine ((unhide HF) _ ((Below.refl _ _).alloc (Nat.le_refl _) _)).mono ?_; rintro e w1 ⟨rfl, hg⟩
  go_wp2_with fail
  exact ⟨rfl, rfl, World.grownBy.trans (World.grownBy_alloc w _ (some rb)) hg⟩

set_option maxHeartbeats 2000000 in
theorem value_list (d : Int) (w : World) (rb : Nat) (b : UInt8) (bs : List UInt8) (h : RdAt w rb (b :: bs)) (hb : b.toNat = 108) (p : Option (Va × List UInt8))
    (HL : Hid (∀ W, Below w.heap.size w W → Calls Tryz.prog 104 #[.pointer (some ⟨rb, 0, none⟩), .int .i64 d] W (Ends rb p (VNew W) W))) :
    Calls Tryz.prog 59 #[.pointer (some ⟨rb, 0, none⟩), .int .i64 d] w (Ends rb p (VNew w) w) := by
  have hlt := h.lt
  have hF := fun (W : World) (hW : Below w.heap.size w W) => first_cons W rb b bs (h.below hW)
  have HF := hide hF; clear hF h
  have b105 : ((b.toNat : Int) == 105) = false := by simp; omega
  have b108 : ((b.toNat : Int) == 108) = true := by simp; omega
  cases p with
  | none =>
    have HL' : Hid (∀ W, Below w.heap.size w W → Calls Tryz.prog 104 #[.pointer (some ⟨rb, 0, none⟩), .int .i64 d] W (Dead rb W)) := unhide HL
    clear HL
    go_enter Tryz.func59, Tryz.ntmps59
    go_wp2_with fail
    refine ((unhide HF) _ ((Below.refl _ _).alloc (Nat.le_refl _) _)).mono ?_; rintro e w1 ⟨rfl, rfl⟩
    go_wp2_with fail
    refine ((unhide HL') _ ((Below.refl _ _).alloc (Nat.le_refl _) _)).mono ?_; rintro e w2 ⟨rfl, hg2⟩
    go_wp2_with fail
    exact ⟨rfl, rfl, World.grownBy.trans (World.grownBy_alloc w _ (some rb)) hg2⟩
  | some p =>
    obtain ⟨V, rest⟩ := p
    have HL' : Hid (∀ W, Below w.heap.size w W → Calls Tryz.prog 104 #[.pointer (some ⟨rb, 0, none⟩), .int .i64 d] W (Took rb rest ((VNew W) V) W)) := unhide HL
    clear HL
    go_enter Tryz.func59, Tryz.ntmps59
    go_wp2_with fail
    refine ((unhide HF) _ ((Below.refl _ _).alloc (Nat.le_refl _) _)).mono ?_; rintro e w1 ⟨rfl, rfl⟩
    go_wp2_with fail
    refine ((unhide HL') _ ((Below.refl _ _).alloc (Nat.le_refl _) _)).mono ?_; rintro e w2 ⟨v, rfl, hv, hr2, hg2⟩
    obtain ⟨e1, e2, e3, e4, e5, e6, e7, e8, e9, rfl⟩ := VIn.form hv
    have HV := hide hv; clear hv
    have hh2 : w2.heap[w.heap.size]? = some (.cells zeroCells 66 (0, 0)) := by
      rw [hg2.block w.heap.size (by simp) (by simp; omega)]
      exact heap_alloc_new _ _
    have HG2 : Hid (w.grownBy w2 (some rb)) := World.grownBy.trans (World.grownBy_alloc w _ (some rb)) hg2
    have hz2 : w.heap.size < w2.heap.size := by have := hg2.size; simp at this; omega
    have f0 := (boxAt hh2 0).1; have f1 := (boxAt hh2 1).1; have f2 := (boxAt hh2 2).1; have f3 := (boxAt hh2 3).1; have f4 := (boxAt hh2 4).1
    have g0 := (boxAt hh2 0).2; have g1 := (boxAt hh2 1).2; have g2 := (boxAt hh2 2).2; have g3 := (boxAt hh2 3).2; have g4 := (boxAt hh2 4).2
    simp at f0 f1 f2 f3 f4
    have HR2 := hide hr2
    clear hr2 hg2 hh2
    go_wp2_with fail
    refine bodyPost_ret (v := vaV e1 e2 e3 e4 e5 e6 e7 e8 e9) (by simp [results, Tryz.results59, go_sem, f0, f1, f2, f3, f4]) rfl ⟨_, rfl, ?_, (unhide HR2).keep (below5 (by omega) _ _ _ _ _), set5 (unhide HG2) (Nat.le_refl _) _ _ _ _ _⟩
    exact VIn.keep (unhide HV) (fun b hb => ⟨by simp at hb; omega, by rw [set5_size]; exact hb.2⟩) fun b hb => set5_block (by simp at hb; omega) _ _ _ _ _

set_option maxHeartbeats 2000000 in
theorem value_dict (d : Int) (w : World) (rb : Nat) (b : UInt8) (bs : List UInt8) (h : RdAt w rb (b :: bs)) (hb : b.toNat = 100) (p : Option (Va × List UInt8))
    (HL : Hid (∀ W, Below w.heap.size w W → Calls Tryz.prog 105 #[.pointer (some ⟨rb, 0, none⟩), .int .i64 d] W (Ends rb p (VNew W) W))) :
    Calls Tryz.prog 59 #[.pointer (some ⟨rb, 0, none⟩), .int .i64 d] w (Ends rb p (VNew w) w) := by
  have hlt := h.lt
  have hF := fun (W : World) (hW : Below w.heap.size w W) => first_cons W rb b bs (h.below hW)
  have HF := hide hF; clear hF h
  have b105 : ((b.toNat : Int) == 105) = false := by simp; omega
  have b108 : ((b.toNat : Int) == 108) = false := by simp; omega
  have b100 : ((b.toNat : Int) == 100) = true := by simp; omega
  cases p with
  | none =>
    have HL' : Hid (∀ W, Below w.heap.size w W → Calls Tryz.prog 105 #[.pointer (some ⟨rb, 0, none⟩), .int .i64 d] W (Dead rb W)) := unhide HL
    clear HL
    go_enter Tryz.func59, Tryz.ntmps59
    go_wp2_with fail
    refine ((unhide HF) _ ((Below.refl _ _).alloc (Nat.le_refl _) _)).mono ?_; rintro e w1 ⟨rfl, rfl⟩
    go_wp2_with fail
    refine ((unhide HL') _ ((Below.refl _ _).alloc (Nat.le_refl _) _)).mono ?_; rintro e w2 ⟨rfl, hg2⟩
    go_wp2_with fail
    exact ⟨rfl, rfl, World.grownBy.trans (World.grownBy_alloc w _ (some rb)) hg2⟩
  | some p =>
    obtain ⟨V, rest⟩ := p
    have HL' : Hid (∀ W, Below w.heap.size w W → Calls Tryz.prog 105 #[.pointer (some ⟨rb, 0, none⟩), .int .i64 d] W (Took rb rest ((VNew W) V) W)) := unhide HL
    clear HL
    go_enter Tryz.func59, Tryz.ntmps59
    go_wp2_with fail
    refine ((unhide HF) _ ((Below.refl _ _).alloc (Nat.le_refl _) _)).mono ?_; rintro e w1 ⟨rfl, rfl⟩
    go_wp2_with fail
    refine ((unhide HL') _ ((Below.refl _ _).alloc (Nat.le_refl _) _)).mono ?_; rintro e w2 ⟨v, rfl, hv, hr2, hg2⟩
    obtain ⟨e1, e2, e3, e4, e5, e6, e7, e8, e9, rfl⟩ := VIn.form hv
    have HV := hide hv; clear hv
    have hh2 : w2.heap[w.heap.size]? = some (.cells zeroCells 66 (0, 0)) := by
      rw [hg2.block w.heap.size (by simp) (by simp; omega)]
      exact heap_alloc_new _ _
    have HG2 : Hid (w.grownBy w2 (some rb)) := World.grownBy.trans (World.grownBy_alloc w _ (some rb)) hg2
    have hz2 : w.heap.size < w2.heap.size := by have := hg2.size; simp at this; omega
    have f0 := (boxAt hh2 0).1; have f1 := (boxAt hh2 1).1; have f2 := (boxAt hh2 2).1; have f3 := (boxAt hh2 3).1; have f4 := (boxAt hh2 4).1
    have g0 := (boxAt hh2 0).2; have g1 := (boxAt hh2 1).2; have g2 := (boxAt hh2 2).2; have g3 := (boxAt hh2 3).2; have g4 := (boxAt hh2 4).2
    simp at f0 f1 f2 f3 f4
    have HR2 := hide hr2
    clear hr2 hg2 hh2
    go_wp2_with fail
    refine bodyPost_ret (v := vaV e1 e2 e3 e4 e5 e6 e7 e8 e9) (by simp [results, Tryz.results59, go_sem, f0, f1, f2, f3, f4]) rfl ⟨_, rfl, ?_, (unhide HR2).keep (below5 (by omega) _ _ _ _ _), set5 (unhide HG2) (Nat.le_refl _) _ _ _ _ _⟩
    exact VIn.keep (unhide HV) (fun b hb => ⟨by simp at hb; omega, by rw [set5_size]; exact hb.2⟩) fun b hb => set5_block (by simp at hb; omega) _ _ _ _ _

set_option maxHeartbeats 2000000 in
theorem value_int (d : Int) (w : World) (rb : Nat) (b : UInt8) (bs : List UInt8) (h : RdAt w rb (b :: bs)) (hb : b.toNat = 105) (p : Option (Int × List UInt8))
    (HL : Hid (∀ W, Below w.heap.size w W → Calls Tryz.prog 103 #[.pointer (some ⟨rb, 0, none⟩)] W (Ends rb p (fun n v w' => v = vaV 1 n ⟨#[]⟩ none 0 0 none 0 0 ∧ I64 n) W))) :
    Calls Tryz.prog 59 #[.pointer (some ⟨rb, 0, none⟩), .int .i64 d] w (Ends rb (p.map fun p => (.mk 1 p.1 ⟨#[]⟩ [] [], p.2)) (VNew w) w) := by
  have hlt := h.lt
  have hF := fun (W : World) (hW : Below w.heap.size w W) => first_cons W rb b bs (h.below hW)
  have HF := hide hF; clear hF h
  have b105 : ((b.toNat : Int) == 105) = true := by simp; omega
  cases p with
  | none =>
    have HL' : Hid (∀ W, Below w.heap.size w W → Calls Tryz.prog 103 #[.pointer (some ⟨rb, 0, none⟩)] W (Dead rb W)) := unhide HL
    clear HL
    go_enter Tryz.func59, Tryz.ntmps59
    go_wp2_with fail
    refine ((unhide HF) _ ((Below.refl _ _).alloc (Nat.le_refl _) _)).mono ?_; rintro e w1 ⟨rfl, rfl⟩
    go_wp2_with fail
    refine ((unhide HL') _ ((Below.refl _ _).alloc (Nat.le_refl _) _)).mono ?_; rintro e w2 ⟨rfl, hg2⟩
    go_wp2_with fail
    exact ⟨rfl, rfl, World.grownBy.trans (World.grownBy_alloc w _ (some rb)) hg2⟩
  | some p =>
    obtain ⟨V, rest⟩ := p
    have HL' : Hid (∀ W, Below w.heap.size w W → Calls Tryz.prog 103 #[.pointer (some ⟨rb, 0, none⟩)] W (Took rb rest ((fun n v w' => v = vaV 1 n ⟨#[]⟩ none 0 0 none 0 0 ∧ I64 n) V) W)) := unhide HL
    clear HL
    go_enter Tryz.func59, Tryz.ntmps59
    go_wp2_with fail
    refine ((unhide HF) _ ((Below.refl _ _).alloc (Nat.le_refl _) _)).mono ?_; rintro e w1 ⟨rfl, rfl⟩
    go_wp2_with fail
    refine ((unhide HL') _ ((Below.refl _ _).alloc (Nat.le_refl _) _)).mono ?_; rintro e w2 ⟨v, rfl, hv, hr2, hg2⟩
    obtain ⟨rfl, hn⟩ := hv
    have hh2 : w2.heap[w.heap.size]? = some (.cells zeroCells 66 (0, 0)) := by
      rw [hg2.block w.heap.size (by simp) (by simp; omega)]
      exact heap_alloc_new _ _
    have HG2 : Hid (w.grownBy w2 (some rb)) := World.grownBy.trans (World.grownBy_alloc w _ (some rb)) hg2
    have hz2 : w.heap.size < w2.heap.size := by have := hg2.size; simp at this; omega
    have f0 := (boxAt hh2 0).1; have f1 := (boxAt hh2 1).1; have f2 := (boxAt hh2 2).1; have f3 := (boxAt hh2 3).1; have f4 := (boxAt hh2 4).1
    have g0 := (boxAt hh2 0).2; have g1 := (boxAt hh2 1).2; have g2 := (boxAt hh2 2).2; have g3 := (boxAt hh2 3).2; have g4 := (boxAt hh2 4).2
    simp at f0 f1 f2 f3 f4
    have HR2 := hide hr2
    clear hr2 hg2 hh2
    go_wp2_with fail
    refine bodyPost_ret (v := vaV 1 V ⟨#[]⟩ none 0 0 none 0 0) (by simp [results, Tryz.results59, go_sem, f0, f1, f2, f3, f4]) rfl ⟨_, rfl, ?_, (unhide HR2).keep (below5 (by omega) _ _ _ _ _), set5 (unhide HG2) (Nat.le_refl _) _ _ _ _ _⟩
    exact VIn.flat ⟨by decide, by decide⟩ hn (by decide)

set_option maxHeartbeats 2000000 in
theorem value_text (d : Int) (w : World) (rb : Nat) (b : UInt8) (bs : List UInt8) (h : RdAt w rb (b :: bs)) (hb : b.toNat ≠ 105 ∧ b.toNat ≠ 108 ∧ b.toNat ≠ 100) (p : Option (List UInt8 × List UInt8))
    (HL : Hid (∀ W, Below w.heap.size w W → Calls Tryz.prog 106 #[.pointer (some ⟨rb, 0, none⟩)] W (Ends rb p (fun s v _ => v = .string ⟨s.toArray⟩ ∧ s.length ≤ 140737488351232) W))) :
    Calls Tryz.prog 59 #[.pointer (some ⟨rb, 0, none⟩), .int .i64 d] w (Ends rb (p.map fun p => (.mk 2 0 ⟨p.1.toArray⟩ [] [], p.2)) (VNew w) w) := by
  have hlt := h.lt
  have hF := fun (W : World) (hW : Below w.heap.size w W) => first_cons W rb b bs (h.below hW)
  have HF := hide hF; clear hF h
  have b105 : ((b.toNat : Int) == 105) = false := by simp; omega
  have b108 : ((b.toNat : Int) == 108) = false := by simp; omega
  have b100 : ((b.toNat : Int) == 100) = false := by simp; omega
  cases p with
  | none =>
    have HL' : Hid (∀ W, Below w.heap.size w W → Calls Tryz.prog 106 #[.pointer (some ⟨rb, 0, none⟩)] W (Dead rb W)) := unhide HL
    clear HL
    go_enter Tryz.func59, Tryz.ntmps59
    go_wp2_with fail
    refine ((unhide HF) _ ((Below.refl _ _).alloc (Nat.le_refl _) _)).mono ?_; rintro e w1 ⟨rfl, rfl⟩
    go_wp2_with fail
    refine ((unhide HL') _ ((Below.refl _ _).alloc (Nat.le_refl _) _)).mono ?_; rintro e w2 ⟨rfl, hg2⟩
    go_wp2_with fail
    exact ⟨rfl, rfl, World.grownBy.trans (World.grownBy_alloc w _ (some rb)) hg2⟩
  | some p =>
    obtain ⟨V, rest⟩ := p
    have HL' : Hid (∀ W, Below w.heap.size w W → Calls Tryz.prog 106 #[.pointer (some ⟨rb, 0, none⟩)] W (Took rb rest ((fun s v _ => v = .string ⟨s.toArray⟩ ∧ s.length ≤ 140737488351232) V) W)) := unhide HL
    clear HL
    go_enter Tryz.func59, Tryz.ntmps59
    go_wp2_with fail
    refine ((unhide HF) _ ((Below.refl _ _).alloc (Nat.le_refl _) _)).mono ?_; rintro e w1 ⟨rfl, rfl⟩
    go_wp2_with fail
    refine ((unhide HL') _ ((Below.refl _ _).alloc (Nat.le_refl _) _)).mono ?_; rintro e w2 ⟨v, rfl, hv, hr2, hg2⟩
    obtain ⟨rfl, hn⟩ := hv
    have hh2 : w2.heap[w.heap.size]? = some (.cells zeroCells 66 (0, 0)) := by
      rw [hg2.block w.heap.size (by simp) (by simp; omega)]
      exact heap_alloc_new _ _
    have HG2 : Hid (w.grownBy w2 (some rb)) := World.grownBy.trans (World.grownBy_alloc w _ (some rb)) hg2
    have hz2 : w.heap.size < w2.heap.size := by have := hg2.size; simp at this; omega
    have f0 := (boxAt hh2 0).1; have f1 := (boxAt hh2 1).1; have f2 := (boxAt hh2 2).1; have f3 := (boxAt hh2 3).1; have f4 := (boxAt hh2 4).1
    have g0 := (boxAt hh2 0).2; have g1 := (boxAt hh2 1).2; have g2 := (boxAt hh2 2).2; have g3 := (boxAt hh2 3).2; have g4 := (boxAt hh2 4).2
    simp at f0 f1 f2 f3 f4
    have HR2 := hide hr2
    clear hr2 hg2 hh2
    go_wp2_with fail
    refine bodyPost_ret (v := vaV 2 0 ⟨V.toArray⟩ none 0 0 none 0 0) (by simp [results, Tryz.results59, go_sem, f0, f1, f2, f3, f4]) rfl ⟨_, rfl, ?_, (unhide HR2).keep (below5 (by omega) _ _ _ _ _), set5 (unhide HG2) (Nat.le_refl _) _ _ _ _ _⟩
    exact VIn.flat ⟨by decide, by decide⟩ ⟨by decide, by decide⟩ (by show V.toArray.size ≤ _; simpa using hn)

theorem int_ends (w : World) (rb : Nat) (b : UInt8) (bs : List UInt8) (h : RdAt w rb (b :: bs)) (hE : Env w) (hw : gTop ≤ w.heap.size) (hrb : gTop ≤ rb) :
    Calls Tryz.prog 103 #[.pointer (some ⟨rb, 0, none⟩)] w (Ends rb (numP 101 bs) (fun n v w' => v = vaV 1 n ⟨#[]⟩ none 0 0 none 0 0 ∧ I64 n) w) := by
  refine (integer_res w rb b bs h hE hw hrb _ rfl).mono ?_
  intro e w'
  cases hq : numP 101 bs with
  | none => exact id
  | some p =>
    obtain ⟨n, q⟩ := p
    rintro ⟨v, rfl, hv, hr, hg⟩
    exact ⟨v, rfl, ⟨hv, (numP_len hq).2⟩, hr, hg⟩
theorem text_ends (w : World) (rb : Nat) (bs : List UInt8) (h : RdAt w rb bs) (hE : Env w) (hw : gTop ≤ w.heap.size) (hrb : gTop ≤ rb) :
    Calls Tryz.prog 106 #[.pointer (some ⟨rb, 0, none⟩)] w (Ends rb (textP bs) (fun s v _ => v = .string ⟨s.toArray⟩ ∧ s.length ≤ 140737488351232) w) := by
  have hl : bs.length ≤ 1000000000 := by obtain ⟨_, _, _, _, hl⟩ := h; exact hl
  refine (text_any' w rb bs h hE hw hrb).mono ?_
  intro e w'
  cases hq : textP bs with
  | none => exact id
  | some p =>
    obtain ⟨n, q⟩ := p
    rintro ⟨v, rfl, hv, hr, hg⟩
    exact ⟨v, rfl, ⟨hv, by have := (textP_len hq).2; omega⟩, hr, hg⟩

/-- list and dict at a depth, all that value asks of them -/
abbrev SubIs (d : Nat) (sub : Option (List UInt8 → Option (Va × List UInt8))) : Prop := ∀ (w : World) (rb : Nat) (b : UInt8) (bs : List UInt8), RdAt w rb (b :: bs) → Env w → gTop ≤ rb →
  (b.toNat = 108 → Calls Tryz.prog 104 #[.pointer (some ⟨rb, 0, none⟩), .int .i64 (d : Int)] w (Ends rb (valF sub (b :: bs)) (VNew w) w)) ∧
  (b.toNat = 100 → Calls Tryz.prog 105 #[.pointer (some ⟨rb, 0, none⟩), .int .i64 (d : Int)] w (Ends rb (valF sub (b :: bs)) (VNew w) w))
theorem value_step (d : Nat) (sub : Option (List UInt8 → Option (Va × List UInt8))) (hs : SubIs d sub) (w : World) (rb : Nat) (bs : List UInt8) (h : RdAt w rb bs) (hE : Env w) (hrb : gTop ≤ rb) :
    Calls Tryz.prog 59 #[.pointer (some ⟨rb, 0, none⟩), .int .i64 (d : Int)] w (Ends rb (valF sub bs) (VNew w) w) := by
  have hlt := h.lt
  have hw : gTop ≤ w.heap.size := by omega
  cases bs with
  | nil => exact value_nil d w rb h
  | cons b r =>
    have hE' : ∀ W, Below w.heap.size w W → Env W := fun W hW => hE.along (hW.mono hw)
    have hw' : ∀ W, Below w.heap.size w W → gTop ≤ W.heap.size := fun W hW => Nat.le_trans hw hW.size
    by_cases h1 : b.toNat = 105
    · have e : valF sub (b :: r) = (numP 101 r).map fun p => (.mk 1 p.1 ⟨#[]⟩ [] [], p.2) := by simp only [valF, if_pos h1]
      rw [e]
      exact value_int d w rb b r h h1 _ fun W hW => int_ends W rb b r (h.below hW) (hE' W hW) (hw' W hW) hrb
    by_cases h2 : b.toNat = 108
    · exact value_list d w rb b r h h2 _ fun W hW => (hs W rb b r (h.below hW) (hE' W hW) hrb).1 h2
    by_cases h3 : b.toNat = 100
    · exact value_dict d w rb b r h h3 _ fun W hW => (hs W rb b r (h.below hW) (hE' W hW) hrb).2 h3
    · have e : valF sub (b :: r) = (textP (b :: r)).map fun p => (.mk 2 0 ⟨p.1.toArray⟩ [] [], p.2) := by simp only [valF, if_neg h1, if_neg h2, if_neg h3]
      rw [e]
      exact value_text d w rb b r h ⟨h1, h2, h3⟩ _ fun W hW => text_ends W rb (b :: r) (h.below hW) (hE' W hW) (hw' W hW) hrb
theorem value_any : ∀ (d : Nat), d ≤ 100 → ValIs d
  | 0, _ => fun w rb bs h hE hrb => value_step 0 none (fun w rb b bs h hE hrb => ⟨fun hb => by
      have e : valF none (b :: bs) = none := by simp only [valF]; rw [if_neg (by omega), if_pos hb]
      rw [e]; exact list_bad w rb, fun hb => by
      have e : valF none (b :: bs) = none := by simp only [valF]; rw [if_neg (by omega), if_neg (by omega), if_pos hb]
      rw [e]; exact dict_bad w rb⟩) w rb bs h hE hrb
  | d + 1, hd => fun w rb bs h hE hrb => value_step (d + 1) (some (valP d)) (fun w rb b bs h hE hrb => ⟨fun hb => by
      have e : valF (some (valP d)) (b :: bs) = (elemsP (valP d) (bs.length + 1) bs []).map fun p => (.mk 3 0 ⟨#[]⟩ p.1 [], p.2) := by simp only [valF]; rw [if_neg (by omega), if_pos hb]
      rw [e]; exact list_any d (value_any d (by omega)) w rb b bs h hE hrb _ rfl (by omega), fun hb => by
      have e : valF (some (valP d)) (b :: bs) = (pairsP (valP d) (bs.length + 1) bs [] []).map fun p => (.mk 4 0 ⟨#[]⟩ p.1.1 p.1.2, p.2) := by simp only [valF]; rw [if_neg (by omega), if_neg (by omega), if_pos hb]
      rw [e]; exact dict_any d (value_any d (by omega)) w rb b bs h hE hrb _ rfl (by omega)⟩) w rb bs h hE hrb
end Go.Proofs.YtdmaopfaeigelaaGreatDoor
