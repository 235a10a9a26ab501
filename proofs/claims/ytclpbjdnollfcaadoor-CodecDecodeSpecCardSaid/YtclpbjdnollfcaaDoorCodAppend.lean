/- Appending to bytes that the call has made itself, also to a row that a conversion from a string has marked behind its last cell. -/
import Derived.Test.YtclpbjdnollfcaaDoorCodLaw
import Derived.Lib.FrozenHead
namespace Go.Proofs.YtclpbjdnollfcaaDoor
set_option linter.unusedSimpArgs false
set_option linter.unusedVariables false
open Go.RowKit

theorem run_storeCells_atM (P : Program) (g o : Nat) (t : TypeId) (fz : Nat × Nat) : ∀ (vs : List Value) (i : Nat) (cur : Array Value) (w : World), w.heap[g]? = some (.cells cur t fz) → (fz = (0, 0) ∨ o + i + vs.length ≤ fz.1) → o + i + vs.length ≤ cur.size → (∀ v ∈ vs, v.oneCell' = true) →
    (storeCells ⟨g, o, none⟩ vs i).run P w = .ok () (w.setRow g (cur.toList.take (o + i) ++ vs ++ cur.toList.drop (o + i + vs.length)).toArray)
  | [], i, cur, w, hg, _, _, _ => by
    simp only [storeCells, List.append_nil, List.length_nil, Nat.add_zero, List.take_append_drop, Array.toArray_toList]
    rw [setRow_self w g cur t fz hg]
    rfl
  | v :: rest, i, cur, w, hg, hfz, hl, h1 => by
    have hi : o + i < cur.size := by simp at hl; omega
    have hadd : (⟨g, o, none⟩ : Addr).add i = ⟨g, o + i, none⟩ := by unfold Addr.add; split <;> simp_all
    have hcell : w.cell? ⟨g, o + i, none⟩ = some cur[o + i] := by simp [World.cell?, hg, hi]
    have hfro : w.frozen? ⟨g, o + i, none⟩ = false := by
      rcases hfz with rfl | hfz
      · simp [World.frozen?, hg]
      · obtain ⟨lo, hi'⟩ := fz
        simp only [World.frozen?, hg, Bool.and_eq_false_iff, decide_eq_false_iff_not]
        left
        simp only [List.length_cons] at hfz
        omega
    have hst : (store ((⟨g, o, none⟩ : Addr).add i) v).run P w = .ok () (w.setRow g (cur.setIfInBounds (o + i) v)) := by
      rw [hadd, run_store P w _ v _ (h1 v (by simp)), hcell]
      simp [hfro, setCell_eq_setRow w g (o + i) cur t fz v hg]
    have ih := run_storeCells_atM P g o t fz rest (i + 1) (cur.setIfInBounds (o + i) v) (w.setRow g (cur.setIfInBounds (o + i) v)) (setRow_heap w g cur _ t _ hg) (hfz.imp id (fun h => by simp at h ⊢; omega)) (by simp at hl ⊢; omega) (fun x hx => h1 x (by simp [hx]))
    simp only [storeCells, Sem.run_bind, hst, Result.andThen_ok, ih, setRow_setRow]
    congr 3
    have e := list_seg_step cur.toList (o + i) v rest (by simp at hl ⊢; omega)
    simpa [Array.toList_setIfInBounds, Nat.add_assoc] using e

def OwnM (w : World) (base : Nat) (v : Value) (l : List UInt8) : Prop :=
  (v = .slice none 0 0 ∧ l = []) ∨ ∃ g cap cur fz, v = .slice (some ⟨g, 0, none⟩) l.length cap ∧ base ≤ g ∧ w.heap[g]? = some (.cells cur 5 fz) ∧ l.length ≤ cap ∧ cap ≤ maxLen ∧ cur.size = cap ∧ (fz = (0, 0) ∨ cap ≤ fz.1) ∧ cur.toList.take l.length = Lib.byteCells l
theorem OwnM.lt {w : World} {base : Nat} {v : Value} {l : List UInt8} (h : OwnM w base v l) : ∀ k, v.ownBlock = some k → base ≤ k ∧ k < w.heap.size := by
  intro k hk
  rcases h with ⟨rfl, _⟩ | ⟨g, cap, cur, fz, rfl, hb, hg, _⟩
  · simp [Value.ownBlock] at hk
  · simp [Value.ownBlock] at hk
    subst hk
    exact ⟨hb, (Array.getElem?_eq_some_iff.1 hg).1⟩
theorem OwnM.cells {w : World} {base g n cap : Nat} {l : List UInt8} (h : OwnM w base (.slice (some ⟨g, 0, none⟩) n cap) l) : ∀ j u, (Lib.byteCells l)[j]? = some u → w.cell? ((⟨g, 0, none⟩ : Addr).add j) = some u := by
  intro j u hu
  rcases h with ⟨h, _⟩ | ⟨g', cap', cur, fz, e, hb, hg, _, _, _, _, ht⟩
  · cases h
  · injection e with e1 e2 e3
    injection e1 with e1
    injection e1 with e1
    subst e1
    rw [Lib.add_plain, Nat.zero_add, cell_of_row w g j cur _ fz hg]
    rw [← ht, List.getElem?_take] at hu
    split at hu
    · simpa using hu
    · cases hu
theorem OwnM.at {w : World} {base : Nat} {v : Value} {l : List UInt8} (h : OwnM w base v l) : BAt w v l := by
  have hh := h
  rcases h with ⟨rfl, rfl⟩ | ⟨g, cap, cur, fz, rfl, hb, hg, h1, h2, h3, h4, h5⟩
  · exact BAt.nil w
  · refine ⟨some ⟨g, 0, none⟩, cap, rfl, .inr ⟨g, 0, rfl, (Array.getElem?_eq_some_iff.1 hg).1⟩, h1, (by unfold maxLen at h2; omega), fun i b hi => ⟨g, 0, rfl, ?_⟩⟩
    have := hh.cells i _ (byteCells_at hi)
    rw [Lib.add_plain] at this
    exact this
theorem OwnM.later {w W : World} {base : Nat} {v : Value} {l : List UInt8} (h : OwnM w base v l) (hb : Below w.heap.size w W) : OwnM W base v l := by
  rcases h with h | ⟨g, cap, cur, fz, rfl, hbg, hg, r⟩
  · exact .inl h
  · exact .inr ⟨g, cap, cur, fz, rfl, hbg, (hb.block g (Array.getElem?_eq_some_iff.1 hg).1).trans hg, r⟩
theorem OwnM.of {w : World} {base n : Nat} {v : Value} {xs : List Value} {l : List UInt8} (h : w.ownsRow base 5 1 v n xs) (hn : l.length = n) (hx : xs = Lib.byteCells l) : OwnM w base v l := by
  subst hn hx
  rcases h.2 with ⟨rfl, h0⟩ | ⟨g, cap, cur, rfl, hb, hg, h1, h2, h3, h4⟩
  · exact .inl ⟨rfl, List.length_eq_zero_iff.1 h0⟩
  · exact .inr ⟨g, cap, cur, (0, 0), rfl, hb, hg, h1, h2, by omega, .inl rfl, by simpa using h4⟩
theorem OwnM.made (w : World) (s : ByteArray) (c base : Nat) (hb : base ≤ w.heap.size) (hc : s.size ≤ c) (hc2 : c ≤ maxLen) : OwnM (w.drew.alloc (.cells (bytesRow s c) 5 ((bytesRow s c).size, (bytesRow s c).size + 1))) base (.slice (some ⟨w.heap.size, 0, none⟩) s.size c) s.data.toList := by
  have e : s.data.toList.length = s.size := by simp
  have hsz : (bytesRow s c).size = c := by
    unfold bytesRow
    simp
    have : s.data.size = s.size := rfl
    omega
  refine .inr ⟨w.heap.size, c, bytesRow s c, _, by rw [e], hb, heap_alloc_new w.drew _, by rw [e]; exact hc, hc2, hsz, .inr (by rw [hsz]; exact Nat.le_refl _), ?_⟩
  rw [e]
  unfold bytesRow Lib.byteCells
  rw [Array.toList_append, List.take_left']
  · simp
  · simp
theorem OwnM.lit (w : World) (b : UInt8) (base : Nat) (hb : base ≤ w.heap.size) : OwnM (w.alloc (.cells #[.int .u8 (b.toNat : Int)] 5 (1, 2))) base (.slice (some ⟨w.heap.size, 0, none⟩) 1 1) [b] :=
  .inr ⟨w.heap.size, 1, _, _, rfl, hb, heap_alloc_new w _, Nat.le_refl _, by decide, rfl, .inr (Nat.le_refl _), rfl⟩

/-- what an append leaves that must grow -/
theorem grownM (w : World) (base old : Nat) (l l2 : List UInt8) (hb : base ≤ w.heap.size) (h : l.length + l2.length ≤ 1000000000) :
    OwnM (w.drew.alloc (.cells ((Lib.byteCells l).toArray ++ (Lib.byteCells l2).toArray ++ Builtin.zeroCells (Value.int .u8 0).cells (grownCap w (l.length + l2.length) old 5 - (l.length + l2.length))) 5)) base
      (.slice (some ⟨w.heap.size, 0, none⟩) (l.length + l2.length) (grownCap w (l.length + l2.length) old 5)) (l ++ l2) ∧
    ∀ row, w.grownBy (w.drew.alloc (.cells ((Lib.byteCells l).toArray ++ (Lib.byteCells l2).toArray ++ Builtin.zeroCells (Value.int .u8 0).cells (grownCap w (l.length + l2.length) old 5 - (l.length + l2.length))) 5)) row := by
  have hge := grownCap_ge w (l.length + l2.length) old 5
  have hcm : grownCap w (l.length + l2.length) old 5 ≤ maxLen := grownCap_le_maxLen w (l.length + l2.length) old 5 (by unfold maxLen; omega)
  have hb1 : (Lib.byteCells l).length = l.length := by simp [Lib.byteCells]
  have hb2 : (Lib.byteCells l2).length = l2.length := by simp [Lib.byteCells]
  refine ⟨.inr ⟨w.heap.size, _, _, (0, 0), by rw [List.length_append], hb, heap_alloc_new w.drew _, by rw [List.length_append]; exact hge, hcm, ?_, .inl rfl, ?_⟩, fun row => ⟨rfl, rfl, rfl, by simp, fun k hk _ => heap_alloc_old w.drew _ hk⟩⟩
  · have hz1 : (Value.int IntKind.u8 0).cells.size = 1 := rfl
    simp only [Array.size_append, List.size_toArray, size_zeroCells, hz1, hb1, hb2]
    omega
  · simp only [Array.toList_append, List.append_assoc]
    rw [← List.append_assoc]
    have e : (l ++ l2).length = (Lib.byteCells l ++ Lib.byteCells l2).length := by simp [hb1, hb2]
    rw [e, List.take_left' rfl]
    simp [Lib.byteCells]
/-- what an append leaves that has room -/
theorem roomM {w : World} {base g cap : Nat} {cur : Array Value} {fz : Nat × Nat} {l l2 : List UInt8} (hb : base ≤ g) (hg : w.heap[g]? = some (.cells cur 5 fz)) (hroom : l.length + l2.length ≤ cap) (hcm : cap ≤ maxLen) (hcs : cur.size = cap) (hfz : fz = (0, 0) ∨ cap ≤ fz.1) (ht : cur.toList.take l.length = Lib.byteCells l) :
    OwnM (w.setRow g (cur.toList.take l.length ++ Lib.byteCells l2 ++ cur.toList.drop (l.length + l2.length)).toArray) base (.slice (some ⟨g, 0, none⟩) (l.length + l2.length) cap) (l ++ l2) ∧
    w.grownBy (w.setRow g (cur.toList.take l.length ++ Lib.byteCells l2 ++ cur.toList.drop (l.length + l2.length)).toArray) (some g) := by
  have hb1 : (Lib.byteCells l).length = l.length := by simp [Lib.byteCells]
  have hb2 : (Lib.byteCells l2).length = l2.length := by simp [Lib.byteCells]
  refine ⟨.inr ⟨g, cap, _, fz, by rw [List.length_append], hb, setRow_heap w g cur _ _ _ hg, by rw [List.length_append]; exact hroom, hcm, ?_, hfz, ?_⟩, ⟨rfl, rfl, rfl, by simp, fun k _ hk => setRow_other w g k _ (fun e => hk (by rw [e]))⟩⟩
  · simp only [List.size_toArray, List.length_append, List.length_take, List.length_drop, Array.length_toList, hb2]
    omega
  · rw [ht]
    have e : (l ++ l2).length = (Lib.byteCells l ++ Lib.byteCells l2).length := by simp [hb1, hb2]
    rw [e, List.take_left' rfl]
    simp [Lib.byteCells]

theorem run_append_M {w : World} {base : Nat} {v : Value} {l l2 : List UInt8} (h : OwnM w base v l) (ty : TypeId) (a : Addr) (c : Nat) (hnews : ∀ j u, (Lib.byteCells l2)[j]? = some u → w.cell? (a.add j) = some u) (h63 : l.length + l2.length ≤ 1000000000) (hbase : base ≤ w.heap.size) :
    ∃ v' w', (Builtin.append_ #[28, 28] ty #[v, .slice (some a) l2.length c]).run Tryd.prog w = .ok v' w' ∧ OwnM w' base v' (l ++ l2) ∧ w.grownBy w' v.ownBlock := by
  obtain ⟨i0, hi, hz0, hz1, hz2⟩ := info_parts infoByte
  have hb1 : (Lib.byteCells l).length = l.length := by simp [Lib.byteCells]
  have hb2 : (Lib.byteCells l2).length = l2.length := by simp [Lib.byteCells]
  have hone : ∀ u ∈ Lib.byteCells l2, u.oneCell' = true := fun u hu => by
    unfold Lib.byteCells at hu
    obtain ⟨y, _, rfl⟩ := List.mem_map.1 hu
    rfl
  have hh := h
  rcases h with ⟨rfl, rfl⟩ | ⟨g, cap, cur, fz, rfl, hb, hg, h1, h2, h3, h4, h5⟩
  · obtain ⟨v', w', hr, h2, h3, _, _⟩ := run_append_own_at (P := Tryd.prog) w base 28 ty 5 i0 (.int .u8 0) 1 1 Tryd.underlying28 hi hz0 hz1 hz2 rfl (by decide) (.slice none 0 0) 0 [] (World.ownsRow_nil _ _ _ _) a l2.length c (Lib.byteCells l2) (by omega) hnews hone (by unfold maxLen; omega) (by omega) hbase
    exact ⟨v', w', hr, OwnM.of h2 (by simp) (by simp), h3⟩
  · by_cases hroom : l.length + l2.length ≤ cap
    · have hf := run_firstCells_some (P := Tryd.prog) w 1 l2.length a l2.length c (Lib.byteCells l2) (by omega) hnews
      have hst := run_storeCells_atM Tryd.prog g l.length 5 fz (Lib.byteCells l2) 0 cur w hg (h4.imp id (fun h => by omega)) (by omega) hone
      simp only [Nat.add_zero, hb2] at hst
      obtain ⟨r1, r2⟩ := roomM (l2 := l2) hb hg hroom h2 h3 h4 h5
      refine ⟨_, _, ?_, r1, r2⟩
      simp [Builtin.append_, run_underlying Tryd.underlying28, sizeOf, typeInfo, hi, hz1, Builtin.lenOf, hroom, hf, Addr.add_lit, hst]
    · have hr := run_append_grow (P := Tryd.prog) w 28 ty 5 i0 (.int .u8 0) Tryd.underlying28 hi hz0 ⟨g, 0, none⟩ l.length cap (Lib.byteCells l) (by rw [hz1]; omega) (fun j v hj => hh.cells j v hj) a l2.length c (Lib.byteCells l2) (by rw [hz1]; omega) hnews (by omega) (by omega) (growslice_fits (by omega) (by rw [hz2]; omega))
      obtain ⟨r1, r2⟩ := grownM w base cap l l2 hbase h63
      exact ⟨_, _, hr, r1, r2 _⟩
theorem strCells_bytes (s : ByteArray) : Lib.strCells s = Lib.byteCells s.data.toList := by
  unfold Lib.strCells Lib.byteCells
  rfl
theorem run_append_Ms {w : World} {base : Nat} {v : Value} {l : List UInt8} (h : OwnM w base v l) (ty : TypeId) (s : ByteArray) (h63 : l.length + s.size ≤ 1000000000) (hbase : base ≤ w.heap.size) :
    ∃ v' w', (Builtin.append_ #[28, 9] ty #[v, .string s]).run Tryd.prog w = .ok v' w' ∧ OwnM w' base v' (l ++ s.data.toList) ∧ w.grownBy w' v.ownBlock := by
  obtain ⟨i0, hi, hz0, hz1, hz2⟩ := info_parts infoByte
  have hb1 : (Lib.byteCells l).length = l.length := by simp [Lib.byteCells]
  have es : s.data.toList.length = s.size := by simp
  have hh := h
  rcases h with ⟨rfl, rfl⟩ | ⟨g, cap, cur, fz, rfl, hb, hg, h1, h2, h3, h4, h5⟩
  · obtain ⟨v', w', hr, h2, h3, _⟩ := Lib.run_append_own_string (P := Tryd.prog) w base 28 9 ty 5 i0 Tryd.underlying28 Tryd.underlying9 hi hz0 hz1 hz2 (.slice none 0 0) 0 [] (World.ownsRow_nil _ _ _ _) s (by unfold maxLen; simp at h63; omega) (by simp at h63; omega) hbase
    exact ⟨v', w', hr, OwnM.of h2 (by simp) (by simp [strCells_bytes]), h3⟩
  · by_cases hroom : l.length + s.size ≤ cap
    · have hf := Lib.run_firstCells_string (P := Tryd.prog) w 1 s
      have hst := run_storeCells_atM Tryd.prog g l.length 5 fz (Lib.strCells s) 0 cur w hg (h4.imp id (fun h => by rw [Lib.strCells_length]; omega)) (by rw [Lib.strCells_length]; omega) (Lib.strCells_oneCell s)
      simp only [Nat.add_zero, Lib.strCells_length] at hst
      obtain ⟨r1, r2⟩ := roomM (l2 := s.data.toList) hb hg (by rw [es]; exact hroom) h2 h3 h4 h5
      rw [es, ← strCells_bytes] at r1 r2
      refine ⟨_, _, ?_, r1, r2⟩
      simp [Builtin.append_, run_underlying Tryd.underlying28, run_underlying Tryd.underlying9, sizeOf, typeInfo, hi, hz1, Builtin.lenOf, hroom, hf, Addr.add_lit, hst]
    · have hr := Lib.run_append_grow_string (P := Tryd.prog) w 28 9 ty 5 i0 (.int .u8 0) Tryd.underlying28 Tryd.underlying9 hi hz0 ⟨g, 0, none⟩ l.length cap (Lib.byteCells l) (by rw [hz1]; omega) (fun j v hj => hh.cells j v hj) s (by omega) (by omega) (growslice_fits (by omega) (by rw [hz2]; omega))
      obtain ⟨r1, r2⟩ := grownM w base cap l s.data.toList hbase (by rw [es]; exact h63)
      rw [es, ← strCells_bytes] at r1 r2
      exact ⟨_, _, hr, r1, r2 _⟩
theorem wpList_append_M {ops : Array Oper} {rest : List Oper} {o : Oper} {a : Act} {Q : Exit → Act → World → Prop} {w : World} (hgd : o.guard = none) (s x : Operand)
    (ho : o.op = .call { callee := .builtin .append, args := #[s, x], argTypes := #[28, 28] })
    (base : Nat) (v : Value) (l : List UInt8) (hs : a.eval s = v) (hown : OwnM w base v l)
    (ad : Addr) (m c : Nat) (l2 : List UInt8) (hx : a.eval x = .slice (some ad) m c) (hl : l2.length = m) (hnews : ∀ j u, (Lib.byteCells l2)[j]? = some u → w.cell? (ad.add j) = some u)
    (h63 : l.length + l2.length ≤ 1000000000) (hbase : base ≤ w.heap.size)
    (h : ∀ v' w', OwnM w' base v' (l ++ l2) → w.grownBy w' v.ownBlock → wpList Tryd.prog ops Q rest (a.put o.dst v') w') :
    wpList Tryd.prog ops Q (o :: rest) a w := by
  subst hl
  refine wpList_plain hgd fun K hK => ?_
  obtain ⟨v', w', hr, h2, h3⟩ := run_append_M hown o.type ad c hnews h63 hbase
  unfold Oper.wp execOp
  simp only [ho, resolve, invoke, builtin, Sem.run_bind, Sem.run_pure, Result.andThen_ok, List.map_toArray, List.map_cons, List.map_nil, hs, hx, hr]
  exact hK _ _ (h v' w' h2 h3)
theorem wpList_append_Ms {ops : Array Oper} {rest : List Oper} {o : Oper} {a : Act} {Q : Exit → Act → World → Prop} {w : World} (hgd : o.guard = none) (s x : Operand)
    (ho : o.op = .call { callee := .builtin .append, args := #[s, x], argTypes := #[28, 9] })
    (base : Nat) (v : Value) (l : List UInt8) (hs : a.eval s = v) (hown : OwnM w base v l) (str : ByteArray) (hx : a.eval x = .string str)
    (h63 : l.length + str.size ≤ 1000000000) (hbase : base ≤ w.heap.size)
    (h : ∀ v' w', OwnM w' base v' (l ++ str.data.toList) → w.grownBy w' v.ownBlock → wpList Tryd.prog ops Q rest (a.put o.dst v') w') :
    wpList Tryd.prog ops Q (o :: rest) a w := by
  refine wpList_plain hgd fun K hK => ?_
  obtain ⟨v', w', hr, h2, h3⟩ := run_append_Ms hown o.type str h63 hbase
  unfold Oper.wp execOp
  simp only [ho, resolve, invoke, builtin, Sem.run_bind, Sem.run_pure, Result.andThen_ok, List.map_toArray, List.map_cons, List.map_nil, hs, hx, hr]
  exact hK _ _ (h v' w' h2 h3)
end Go.Proofs.YtclpbjdnollfcaaDoor
