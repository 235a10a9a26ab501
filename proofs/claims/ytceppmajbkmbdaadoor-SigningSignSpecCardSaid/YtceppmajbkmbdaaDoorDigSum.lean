/- Contracts over the digest's program: Sum, Tagged; values of a digest in memory. -/
import Derived.Test.YtceppmajbkmbdaaDoorDigHash
namespace Go.Proofs.YtceppmajbkmbdaaDoor
set_option linter.unusedSimpArgs false
set_option linter.unusedVariables false
open Go.RowKit

theorem splice_step (B cs : List Int) (c : Int) (m : Nat) (h : m + (cs.length + 1) ≤ B.length) :
    (B.set m c).take (m + 1) ++ (cs ++ (B.set m c).drop (m + 1 + cs.length)) = B.take m ++ (c :: cs ++ B.drop (m + (cs.length + 1))) := by
  have e1 : (B.set m c).take (m + 1) = B.take m ++ [c] := by
    apply List.ext_getElem?
    intro j
    rw [List.getElem?_take, List.getElem?_set, List.getElem?_append, List.length_take, List.getElem?_take, Nat.min_eq_left (by omega)]
    by_cases hj : j < m
    · rw [if_pos (by omega), if_neg (by omega), if_pos hj, if_pos hj]
    · by_cases hj2 : j = m
      · subst hj2; simp; omega
      · rw [if_neg (by omega), if_neg hj, List.getElem?_eq_none (by simp; omega)]
  have e2 : (B.set m c).drop (m + 1 + cs.length) = B.drop (m + (cs.length + 1)) := by
    apply List.ext_getElem?
    intro j
    rw [List.getElem?_drop, List.getElem?_drop, List.getElem?_set, if_neg (by omega)]
    congr 1
    omega
  rw [e1, e2]
  simp
theorem ByAt.setCells {N : Nat} {t : TypeId} : ∀ (cs : List Int) (m : Nat) (w : World) (B : List Int), ByAt w N t B → m + cs.length ≤ B.length → ByAt (w.setCells N m (cs.map (Value.int .u8))) N t (B.take m ++ (cs ++ B.drop (m + cs.length)))
  | [], m, w, B, h, _ => by
    have e : w.setCells N m (([] : List Int).map (Value.int .u8)) = w := rfl
    rw [e]; simpa using h
  | c :: cs, m, w, B, h, hm => by
    simp only [List.length_cons] at hm ⊢
    have h2 := ByAt.setCells cs (m + 1) _ _ (h.set m c) (by simp; omega)
    simp only [List.map_cons, World.setCells]
    rw [splice_step B cs c m hm] at h2
    exact h2
theorem ByAt.setAll {w : World} {N : Nat} {t : TypeId} {B : List Int} (h : ByAt w N t B) (cs : List Int) (hl : cs.length = B.length) : ByAt (w.setCells N 0 (cs.map (Value.int .u8))) N t cs := by
  have := h.setCells cs 0 w B (by omega)
  rw [List.take_zero, List.nil_append, Nat.zero_add, List.drop_eq_nil_of_le (by omega), List.append_nil] at this
  exact this
theorem bytes_oneCell (l : List Int) : (l.map (Value.int .u8)).toArray.all (·.oneCell') = true := all_oneCell_toArray fun v hv => by obtain ⟨x, _, rfl⟩ := List.mem_map.1 hv; rfl
theorem wpList_bstore {P : Program} {ops : Array Oper} {rest : List Oper} {o : Oper} {a : Act} {w : World} {Q : Exit → Act → World → Prop} (hgd : o.guard = none) (ty : TypeId) (x y : Operand) (ho : o.op = .store ty x y)
    (N : Nat) (hx : a.eval x = .pointer (some ⟨N, 0, none⟩)) (l : List Int) (hy : a.eval y = dv l) (n : Nat) (hi : (P.info? ty).map (·.size) = some n) (hl : l.length = n) (T : TypeId) (l0 : List Int) (h0 : ByAt w N T l0) (hl0 : l0.length = n)
    (h : ∀ W, Hid (ByAt W N T l) → Hid (w.grownBy W (some N)) → wpList P ops Q rest (a.put o.dst undef) W) : wpList P ops Q (o :: rest) a w := by
  have hth : w.there N 0 (l.map (Value.int .u8)).toArray.size := fun j hj => by
    rw [Nat.zero_add]
    exact ⟨by rw [h0.cell (j := j) (by simp at hj; omega)]; rfl, h0.free j⟩
  exact wpList_store_mid hgd ty x y ho N 0 (l.map (Value.int .u8)).toArray hx hy hth (by simpa [hl] using hi) (bytes_oneCell l) (h _ (h0.setAll l (by omega)) (grownSetCells N _ _ w))
theorem wpList_bload {P : Program} {ops : Array Oper} {rest : List Oper} {o : Oper} {a : Act} {w : World} {Q : Exit → Act → World → Prop} (hgd : o.guard = none) (ty : TypeId) (x : Operand) (ho : o.op = .load ty x)
    (N : Nat) (hx : a.eval x = .pointer (some ⟨N, 0, none⟩)) (d : TypeDesc) (hu : P.underlying ty = some d) (hd : d.isRow = true) (n : Nat) (hi : (P.info? ty).map (·.size) = some n) (T : TypeId) (l : List Int) (h0 : ByAt w N T l) (hl : l.length = n)
    (h : wpList P ops Q rest (a.put o.dst (dv l)) w) : wpList P ops Q (o :: rest) a w :=
  wpList_load_mid hgd ty x ho N 0 hx (l.map (Value.int .u8)) d h0.range hu hd (by simpa [hl] using hi) h
theorem info32 : (Tryd.prog.info? 24).map (·.size) = some 32 := by kernel_rfl
theorem bret {fn : Func} {R : Ending → World → Prop} {a : Act} {w : World} {t : Tmp} (h : fn.results = #[.cell t 24]) (hd : a.defers = []) (N : Nat) (hp : a.tmps.getD t undef = .pointer (some ⟨N, 0, none⟩)) (T : TypeId) (l : List Int) (h0 : ByAt w N T l) (hl : l.length = 32) (hR : R (.returned (dv l)) w) :
    bodyPost Tryd.prog fn R .ret a w :=
  bodyPost_ret (v := dv l) (results_cell_mid h _ _ N (l.map (Value.int .u8)) _ hp h0.range Tryd.underlying24 rfl (by simpa [hl] using info32)) hd hR
theorem hashF_byt (l : List Int) : ∀ c ∈ hashF l, Byt c := by
  intro c hc
  unfold hashF outF at hc
  obtain ⟨i, _, rfl⟩ := List.mem_map.1 hc
  rw [IntKind.wrap_u8]
  exact ⟨Int.emod_nonneg _ (by decide), Int.emod_lt_of_pos _ (by decide)⟩
abbrev zeros : List Int := List.replicate 32 0
theorem newBy (w W : World) (hW : W.heap = w.heap.push (.cells (zeros.map (Value.int .u8)).toArray 24 (0, 0))) : ByAt W w.heap.size 24 zeros := by
  show W.heap[w.heap.size]? = _
  rw [hW, Array.getElem?_push_size]

theorem Part.ok.keep {w w' : World} {p : Part} (h : p.ok w) (hb : Below w.heap.size w w') : p.ok w' := ⟨h.1.keep hb, h.2⟩
theorem hash_new (w : World) (ps : List Part) (t : TypeId) (ho : ∀ p ∈ ps, p.ok w) (hl : ps.length ≤ 1000) (hT : DTab w) :
    Calls Tryd.prog 82 #[.slice (some ⟨w.heap.size, 0, none⟩) ps.length ps.length] (w.alloc (.cells (ps.map Part.val).toArray t (0, 0))) fun e w' => e = .returned (dv (hashF (joined ps))) ∧ Below w.heap.size w w' := by
  have hB : Below w.heap.size w (w.alloc (.cells (ps.map Part.val).toArray t (0, 0))) := (Below.refl _ _).alloc (Nat.le_refl _) _
  refine (hash_any _ w.heap.size 0 ps.length ps (fun k p hk => ?_) (fun p hp => (ho p hp).keep hB) hl (hT.keep hB)).mono ?_
  · rw [Nat.zero_add]
    have e : (w.alloc (.cells (ps.map Part.val).toArray t (0, 0))).heap[w.heap.size]? = some (.cells (ps.map Part.val).toArray t (0, 0)) := by
      show (w.heap.push _)[w.heap.size]? = _
      rw [Array.getElem?_push_size]
    simp only [World.cell?, e]
    simp [hk]
  · rintro e w' ⟨rfl, h⟩
    exact ⟨rfl, hB.trans (h.mono hB.size)⟩

set_option maxRecDepth 100000 in
set_option maxHeartbeats 4000000 in
theorem sum_any (w : World) (A : Option Addr) (c : Nat) (l : List Int) (hA : Bt w A l) (hc : l.length ≤ c) (hT : DTab w) :
    Calls Tryd.prog 45 #[.slice A l.length c] w fun e w' => e = .returned (dv (hashF l)) ∧ Below w.heap.size w w' := by
  have HT := hide hT
  have HA := hide hA
  have HC := hide hc
  clear hT hA hc
  go_enter Tryd.func45, Tryd.ntmps45
  go_upto_region 1 with fail
  generalize hX : w.alloc _ = W1
  have hB1 : Below w.heap.size w W1 := hX ▸ (Below.refl _ _).alloc (Nat.le_refl _) _
  have HO1 := hide (newBy w W1 (by rw [← hX]; rfl))
  have HB1 := hide hB1
  clear hX hB1
  refine wp_region_list ?_
  go_wp2_with fail
  refine (hash_new W1 [⟨A, l, c⟩] _ (fun p hp => by rw [List.mem_singleton.1 hp]; exact ⟨(unhide HA).keep (unhide HB1), unhide HC⟩) (by simp) ((unhide HT).keep (unhide HB1))).mono ?_; rintro e w2 ⟨rfl, hB2⟩
  rw [show joined [⟨A, l, c⟩] = l by simp [joined]]
  have HB2 := hide (thenB (unhide HB1) hB2)
  have HO2 := hide ((unhide HO1).keep hB2)
  clear hB2
  dsimp only
  rename_i KK hK
  refine hK _ _ ?_
  clear hK
  refine wpList_bstore rfl 24 (.tmp 2) (.tmp 5) rfl w.heap.size rfl (hashF l) rfl 32 info32 (hashF_length _) _ zeros (unhide HO2) rfl ?_
  intro W HW HG
  go_wp2_with fail
  try simp only [Exit.inBlock, Exit.then]
  exact bret rfl rfl w.heap.size rfl _ _ (unhide HW) (hashF_length _) ⟨rfl, (unhide HB2).grown (unhide HG) (unhide HB2).size (fun i e => by injection e with e; omega)⟩
end Go.Proofs.YtceppmajbkmbdaaDoor
