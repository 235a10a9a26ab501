/- Contracts over the digest's program: leaf, node, newHasher. -/
import Derived.Test.YtceppmajbkmbdaaDoorDigHalf
namespace Go.Proofs.YtceppmajbkmbdaaDoor
set_option linter.unusedSimpArgs false
set_option linter.unusedVariables false
open Go.RowKit

def LT : List Int := hashF [108, 101, 97, 102]
def NT : List Int := hashF [110, 111, 100, 101]
theorem LT_length : LT.length = 32 := hashF_length _
theorem NT_length : NT.length = 32 := hashF_length _
/-- a digest -/
structure Dg (d : List Int) : Prop where
  len : d.length = 32
  byt : ∀ c ∈ d, Byt c
theorem dg_hash (l : List Int) : Dg (hashF l) := ⟨hashF_length _, hashF_byt _⟩
def nodeP (a b : List Int) : List Int := hashF (NT ++ (a ++ b))
def leafP (d : List Int) : List Int := hashF (LT ++ d)
abbrev HAt (w : World) (hb : Nat) : Prop := ByAt w hb 64 (LT ++ NT)
theorem HAt.bt0 {w : World} {hb : Nat} (h : HAt w hb) : Bt w (some ⟨hb, 0, none⟩) LT :=
  ⟨hashF_byt _, fun _ => ⟨hb, 0, rfl, fun j hj => by
    rw [Nat.zero_add, h.cell (j := j) (by simp; omega), List.getD_eq_getElem?_getD, List.getD_eq_getElem?_getD, List.getElem?_append_left hj]⟩⟩
theorem HAt.bt1 {w : World} {hb : Nat} (h : HAt w hb) : Bt w (some ⟨hb, 32, none⟩) NT :=
  ⟨hashF_byt _, fun _ => ⟨hb, 32, rfl, fun j hj => by
    have := LT_length
    rw [h.cell (j := 32 + j) (by simp; omega), List.getD_eq_getElem?_getD, List.getD_eq_getElem?_getD, List.getElem?_append_right (by omega), show 32 + j - LT.length = j by omega]⟩⟩
theorem ByAt.bt {w : World} {b : Nat} {t : TypeId} {d : List Int} (h : ByAt w b t d) (hd : Dg d) : Bt w (some ⟨b, 0, none⟩) d :=
  ⟨hd.byt, fun _ => ⟨b, 0, rfl, fun j hj => by rw [Nat.zero_add]; exact h.cell hj⟩⟩
theorem boxed (w W : World) (d : List Int) (t : TypeId) (hW : W.heap = w.heap.push (.cells (d.map (Value.int .u8)).toArray t (0, 0))) : ByAt W w.heap.size t d := by
  show W.heap[w.heap.size]? = _
  rw [hW, Array.getElem?_push_size]

set_option maxRecDepth 100000 in
set_option maxHeartbeats 4000000 in
theorem leaf_any (w : World) (hb : Nat) (d : List Int) (h : HAt w hb) (hd : Dg d) (hT : DTab w) :
    Calls Tryd.prog 83 #[.pointer (some ⟨hb, 0, none⟩), dv d] w fun x w' => x = .returned (dv (leafP d)) ∧ Below w.heap.size w w' := by
  have HT := hide hT
  have HH := hide h
  have HD := hide hd
  have hld := hd.len
  obtain ⟨cd, hcd⟩ : ∃ cs, cs = (d.map (Value.int .u8)).toArray := ⟨_, rfl⟩
  have hsd : cd.size = 32 := by rw [hcd]; simpa using hld
  rw [show dv d = .agg cd by rw [hcd]]
  clear hT h hd hld
  go_enter Tryd.func83, Tryd.ntmps83
  go_upto_region 1 with fail
  generalize hX1 : w.alloc _ = W1
  have hB1 : Below w.heap.size w W1 := hX1 ▸ (Below.refl _ _).alloc (Nat.le_refl _) _
  have ho1 : ByAt W1 w.heap.size 24 d := boxed w W1 d _ (by rw [← hX1]; first | rfl | (rw [hcd]; rfl))
  have hz1 : W1.heap.size = w.heap.size + 1 := by rw [← hX1]; show (w.heap.push _).size = _; rw [Array.size_push]
  generalize hX2 : W1.alloc _ = W2
  have hB2 : Below W1.heap.size W1 W2 := hX2 ▸ (Below.refl _ _).alloc (Nat.le_refl _) _
  have ho2 : ByAt W2 W1.heap.size 24 zeros := newBy W1 W2 (by rw [← hX2]; rfl)
  have hz2 : W2.heap.size = w.heap.size + 2 := by rw [← hX2]; show (W1.heap.push _).size = _; rw [Array.size_push]; omega
  have hB : Below w.heap.size w W2 := (thenB hB1 hB2)
  have hk1 := (ho1.keep hB2)
  have hk2 := ho2
  rw [hz1] at hk2
  obtain ⟨W, hW⟩ : ∃ W, W = W2.drewN 1 := ⟨_, rfl⟩
  have HW : Hid (W = W2.drewN 1) := hW
  have HK1 := hide (hk1.keep (below_named HW))
  have HK2 := hide (hk2.keep (below_named HW))
  have HB := hide (thenB hB (below_named HW))
  clear hW hB hX1 hB1 ho1 hz1 hk1 hX2 hB2 ho2 hz2 hk2 hcd
  refine still_drew 5 W HW (by kernel_rfl) (by kernel_rfl) ?_
  simp only [List.take_succ_cons, List.take_zero, List.drop_succ_cons, List.drop_zero]
  repeat still_step
  refine wpStill_nil ?_
  go_wp2_with fail
  have hpp : ∀ p ∈ ([⟨some ⟨hb, 0, none⟩, LT, 32⟩, ⟨some ⟨w.heap.size, 0, none⟩, d, 32⟩] : List Part), p.ok W := fun p hp => by
    simp only [List.mem_cons, List.not_mem_nil, or_false] at hp
    rcases hp with rfl | rfl
    · exact ⟨HAt.bt0 ((unhide HH).keep (unhide HB)), Nat.le_of_eq (hashF_length _)⟩
    · exact ⟨(unhide HK1).bt (unhide HD), Nat.le_of_eq (unhide HD).len⟩
  have hh := hash_new W [⟨some ⟨hb, 0, none⟩, LT, 32⟩, ⟨some ⟨w.heap.size, 0, none⟩, d, 32⟩] 22 hpp (by simp) ((unhide HT).keep (unhide HB))
  simp only [List.map_cons, List.map_nil, Part.val, LT_length, (unhide HD).len] at hh
  rw [show joined [⟨some ⟨hb, 0, none⟩, LT, 32⟩, ⟨some ⟨w.heap.size, 0, none⟩, d, 32⟩] = LT ++ d by simp [joined]] at hh
  refine hh.mono ?_; rintro x w6 ⟨rfl, hB6⟩
  have HB6 := hide (thenB (unhide HB) hB6)
  have HO6 := hide ((unhide HK2).keep hB6)
  clear hB6 hh hpp HB HK1 HK2
  dsimp only
  rename_i KK hK
  refine hK _ _ ?_
  clear hK KK
  refine wpList_bstore rfl 24 (.tmp 4) (.tmp 11) rfl (w.heap.size + 1) rfl (hashF (LT ++ d)) rfl 32 info32 (hashF_length _) _ zeros (unhide HO6) rfl ?_
  intro W9 HW9 HG
  go_wp2_with fail
  try simp only [Exit.inBlock, Exit.then]
  exact bret rfl rfl (w.heap.size + 1) rfl _ _ (unhide HW9) (hashF_length _) ⟨rfl, (unhide HB6).grown (unhide HG) (unhide HB6).size (fun i e => by injection e with e; omega)⟩

set_option maxRecDepth 100000 in
set_option maxHeartbeats 4000000 in
theorem node_any (w : World) (hb : Nat) (d e : List Int) (h : HAt w hb) (hd : Dg d) (he : Dg e) (hT : DTab w) :
    Calls Tryd.prog 63 #[.pointer (some ⟨hb, 0, none⟩), dv d, dv e] w fun x w' => x = .returned (dv (nodeP d e)) ∧ Below w.heap.size w w' := by
  have HT := hide hT
  have HH := hide h
  have HD := hide hd
  have hld := hd.len
  obtain ⟨cd, hcd⟩ : ∃ cs, cs = (d.map (Value.int .u8)).toArray := ⟨_, rfl⟩
  have hsd : cd.size = 32 := by rw [hcd]; simpa using hld
  rw [show dv d = .agg cd by rw [hcd]]
  have HE := hide he
  have hle := he.len
  obtain ⟨ce, hce⟩ : ∃ cs, cs = (e.map (Value.int .u8)).toArray := ⟨_, rfl⟩
  have hse : ce.size = 32 := by rw [hce]; simpa using hle
  rw [show dv e = .agg ce by rw [hce]]
  clear hT h hd hld he hle
  go_enter Tryd.func63, Tryd.ntmps63
  go_upto_region 1 with fail
  generalize hX1 : w.alloc _ = W1
  have hB1 : Below w.heap.size w W1 := hX1 ▸ (Below.refl _ _).alloc (Nat.le_refl _) _
  have ho1 : ByAt W1 w.heap.size 24 d := boxed w W1 d _ (by rw [← hX1]; first | rfl | (rw [hcd]; rfl))
  have hz1 : W1.heap.size = w.heap.size + 1 := by rw [← hX1]; show (w.heap.push _).size = _; rw [Array.size_push]
  generalize hX2 : W1.alloc _ = W2
  have hB2 : Below W1.heap.size W1 W2 := hX2 ▸ (Below.refl _ _).alloc (Nat.le_refl _) _
  have ho2 : ByAt W2 W1.heap.size 24 e := boxed W1 W2 e _ (by rw [← hX2]; first | rfl | (rw [hce]; rfl))
  have hz2 : W2.heap.size = w.heap.size + 2 := by rw [← hX2]; show (W1.heap.push _).size = _; rw [Array.size_push]; omega
  generalize hX3 : W2.alloc _ = W3
  have hB3 : Below W2.heap.size W2 W3 := hX3 ▸ (Below.refl _ _).alloc (Nat.le_refl _) _
  have ho3 : ByAt W3 W2.heap.size 24 zeros := newBy W2 W3 (by rw [← hX3]; rfl)
  have hz3 : W3.heap.size = w.heap.size + 3 := by rw [← hX3]; show (W2.heap.push _).size = _; rw [Array.size_push]; omega
  have hB : Below w.heap.size w W3 := (thenB (thenB hB1 hB2) hB3)
  have hk1 := ((ho1.keep hB2).keep hB3)
  have hk2 := (ho2.keep hB3)
  rw [hz1] at hk2
  have hk3 := ho3
  rw [hz2] at hk3
  obtain ⟨W, hW⟩ : ∃ W, W = W3.drewN 1 := ⟨_, rfl⟩
  have HW : Hid (W = W3.drewN 1) := hW
  have HK1 := hide (hk1.keep (below_named HW))
  have HK2 := hide (hk2.keep (below_named HW))
  have HK3 := hide (hk3.keep (below_named HW))
  have HB := hide (thenB hB (below_named HW))
  clear hW hB hX1 hB1 ho1 hz1 hk1 hX2 hB2 ho2 hz2 hk2 hX3 hB3 ho3 hz3 hk3 hcd hce
  refine still_drew 6 W HW (by kernel_rfl) (by kernel_rfl) ?_
  simp only [List.take_succ_cons, List.take_zero, List.drop_succ_cons, List.drop_zero]
  repeat still_step
  refine wpStill_nil ?_
  go_wp2_with fail
  have hpp : ∀ p ∈ ([⟨some ⟨hb, 32, none⟩, NT, 32⟩, ⟨some ⟨w.heap.size, 0, none⟩, d, 32⟩, ⟨some ⟨w.heap.size + 1, 0, none⟩, e, 32⟩] : List Part), p.ok W := fun p hp => by
    simp only [List.mem_cons, List.not_mem_nil, or_false] at hp
    rcases hp with rfl | rfl | rfl
    · exact ⟨HAt.bt1 ((unhide HH).keep (unhide HB)), Nat.le_of_eq (hashF_length _)⟩
    · exact ⟨(unhide HK1).bt (unhide HD), Nat.le_of_eq (unhide HD).len⟩
    · exact ⟨(unhide HK2).bt (unhide HE), Nat.le_of_eq (unhide HE).len⟩
  have hh := hash_new W [⟨some ⟨hb, 32, none⟩, NT, 32⟩, ⟨some ⟨w.heap.size, 0, none⟩, d, 32⟩, ⟨some ⟨w.heap.size + 1, 0, none⟩, e, 32⟩] 22 hpp (by simp) ((unhide HT).keep (unhide HB))
  simp only [List.map_cons, List.map_nil, Part.val, NT_length, (unhide HD).len, (unhide HE).len] at hh
  rw [show joined [⟨some ⟨hb, 32, none⟩, NT, 32⟩, ⟨some ⟨w.heap.size, 0, none⟩, d, 32⟩, ⟨some ⟨w.heap.size + 1, 0, none⟩, e, 32⟩] = NT ++ (d ++ e) by simp [joined]] at hh
  refine hh.mono ?_; rintro x w6 ⟨rfl, hB6⟩
  have HB6 := hide (thenB (unhide HB) hB6)
  have HO6 := hide ((unhide HK3).keep hB6)
  clear hB6 hh hpp HB HK1 HK2 HK3
  dsimp only
  rename_i KK hK
  refine hK _ _ ?_
  clear hK KK
  refine wpList_bstore rfl 24 (.tmp 6) (.tmp 14) rfl (w.heap.size + 2) rfl (hashF (NT ++ (d ++ e))) rfl 32 info32 (hashF_length _) _ zeros (unhide HO6) rfl ?_
  intro W9 HW9 HG
  go_wp2_with fail
  try simp only [Exit.inBlock, Exit.then]
  exact bret rfl rfl (w.heap.size + 2) rfl _ _ (unhide HW9) (hashF_length _) ⟨rfl, (unhide HB6).grown (unhide HG) (unhide HB6).size (fun i e => by injection e with e; omega)⟩

end Go.Proofs.YtceppmajbkmbdaaDoor
