/- Contracts over the program of facts: lots. -/
import Derived.Test.YtdmaopfaeigelaaGreatDoorFacQ
import Derived.Test.YtdmaopfaeigelaaGreatDoorFacL
import Derived.Test.YtdmaopfaeigelaaGreatDoorFacShelf2
import Derived.Sort.OwnSortedInts
namespace Go.Proofs.YtdmaopfaeigelaaGreatDoor
set_option linter.unusedSimpArgs false
set_option linter.unusedVariables false
open Go.RowKit Go.Sort

def sortI (l : List Int) : List Int := l.mergeSort fun x y => decide (x ≤ y)
theorem sortI_perm (l : List Int) : (sortI l).Perm l := List.mergeSort_perm _ _
theorem sortI_len (l : List Int) : (sortI l).length = l.length := (sortI_perm l).length_eq
theorem sortI_le (l : List Int) : (sortI l).Pairwise (· ≤ ·) := by
  have h := List.pairwise_mergeSort (le := fun x y : Int => decide (x ≤ y)) (fun a b c h1 h2 => by simp only [decide_eq_true_eq] at *; omega) (fun a b => by simp only [Bool.or_eq_true, decide_eq_true_eq]; omega) l
  exact h.imp fun h => by simpa using h
theorem distinct_iff : ∀ l : List Int, distinct l = true ↔ l.Nodup
  | [] => by simp [distinct]
  | x :: l => by simp [distinct, distinct_iff l]
theorem incr_lt {m : List Int} (h : incr m = true) : m.Nodup := by
  have hi := (incr_iff m).1 h
  have key : ∀ d i, i + (d + 1) < m.length → m.getD i 0 < m.getD (i + (d + 1)) 0 := by
    intro d
    induction d with
    | zero => intro i hid; have := hi (i + 1) (by omega) (by omega); rwa [Nat.add_sub_cancel] at this
    | succ d ih =>
      intro i hid
      have h1 := ih i (by omega)
      have h2 := hi (i + (d + 1) + 1) (by omega) (by omega)
      rw [Nat.add_sub_cancel] at h2
      rw [show i + (d + 1 + 1) = i + (d + 1) + 1 by omega]
      omega
  unfold List.Nodup
  rw [List.pairwise_iff_getElem]
  intro i j h1 h2 hij
  have := key (j - i - 1) i (by omega)
  rw [show i + (j - i - 1 + 1) = j by omega, List.getD_eq_getElem?_getD, List.getD_eq_getElem?_getD, List.getElem?_eq_getElem h1, List.getElem?_eq_getElem h2] at this
  intro e
  have : m[i] < m[j] := this
  omega
theorem incr_sort (l : List Int) : incr (sortI l) = distinct l := by
  cases h : distinct l
  · cases h2 : incr (sortI l)
    · rfl
    · have := (sortI_perm l).nodup_iff.1 (incr_lt h2)
      rw [(distinct_iff l).2 this] at h
      cases h
  · refine (incr_iff _).2 fun i h1 h2 => ?_
    have hn : (sortI l).Nodup := (sortI_perm l).nodup_iff.2 ((distinct_iff l).1 h)
    have hle := sortI_le l
    unfold List.Nodup at hn
    rw [List.pairwise_iff_getElem] at hn hle
    have a := hn (i - 1) i (by omega) h2 (by omega)
    have b := hle (i - 1) i (by omega) h2 (by omega)
    rw [List.getD_eq_getElem?_getD, List.getD_eq_getElem?_getD, List.getElem?_eq_getElem h2, List.getElem?_eq_getElem (show i - 1 < (sortI l).length by omega)]
    show (sortI l)[i - 1] < (sortI l)[i]
    omega
theorem collect_any (Bs : Nat) (A : Option Addr) (n c : Nat) (l : List Int) (w : World) (hB : w.cell? ⟨Bs, 0, none⟩ = some (.slice A n c)) (hn : n = l.length) (hA : Sl w A l c) :
    Calls Tryz.prog 242 #[.func (.func 244) #[] #[.pointer (some ⟨Bs, 0, none⟩)]] w fun e w' => ∃ v, e = .returned v ∧ w'.ownsRow w.heap.size 3 1 v l.length (l.map (Value.int .i64)) ∧ Below w.heap.size w w' := by
  have H := hide (appendSeq_any Bs A n c l w hB hn hA)
  clear hB hn hA
  go_enter Tryz.func242, Tryz.ntmps242
  go_wp2_with fail
  refine (unhide H).mono ?_; rintro e W2 ⟨v, rfl, hrow, hG⟩
  have HR := hide hrow; have HG := hide hG
  clear hrow hG
  go_wp2_with fail
  go_ret
  exact ⟨v, rfl, unhide HR, unhide HG⟩
theorem sl_of_row {w : World} {base g n cap : Nat} {l : List Int} (h : w.ownsRow base 3 1 (.slice (some ⟨g, 0, none⟩) n cap) n (l.map (Value.int .i64))) (hl : l.length ≤ 1000) : Sl w (some ⟨g, 0, none⟩) l cap ∧ n = l.length := by
  have hn : n = l.length := by have := h.1; simpa using this.symm
  rcases h.2 with ⟨h, _⟩ | ⟨g1, c1, cur, h, hb, hg, hnc, hm, hs, ht⟩
  · cases h
  injection h with h1 h2 h3
  injection h1 with h1
  injection h1 with h1 _
  subst h1 h3
  refine ⟨⟨⟨fun _ => ⟨g, 0, rfl, fun j hj => ?_⟩⟩, by omega, (fun e => by cases e), hl⟩, hn⟩
  have h1 : (cur.toList.take (n * 1))[j]? = (l.map (Value.int .i64))[j]? := by rw [ht]
  rw [List.getElem?_take_of_lt (by omega), List.getElem?_map, List.getElem?_eq_getElem hj] at h1
  rw [List.getD_eq_getElem?_getD, List.getElem?_eq_getElem hj, Nat.zero_add]
  simp only [World.cell?, hg]
  simpa using h1
set_option maxRecDepth 100000 in
theorem sorted_any (Bs : Nat) (A : Option Addr) (n c : Nat) (l : List Int) (w : World) (hB : w.cell? ⟨Bs, 0, none⟩ = some (.slice A n c)) (hn : n = l.length) (hA : Sl w A l c) (hne : l ≠ []) :
    Calls Tryz.prog 198 #[.func (.func 244) #[] #[.pointer (some ⟨Bs, 0, none⟩)]] w fun e w' => ∃ A' k, e = .returned (.slice A' n k) ∧ Sl w' A' (sortI l) k ∧ Below w.heap.size w w' := by
  have H := hide (collect_any Bs A n c l w hB hn hA)
  have hfew := hA.few
  have HN := hide hn; have HF := hide hfew
  have hpos : 0 < l.length := List.length_pos_iff.2 hne
  have HP := hide hpos
  clear hB hn hA hne hfew hpos
  go_enter Tryz.func198, Tryz.ntmps198
  go_wp2_with fail
  refine (unhide H).mono ?_; rintro e W2 ⟨v, rfl, hrow, hG⟩
  rw [← unhide HN] at hrow
  obtain ⟨g, cap, rfl⟩ : ∃ g cap, v = .slice (some ⟨g, 0, none⟩) n cap := by
    obtain ⟨m, hm⟩ : ∃ m, n = m + 1 := ⟨n - 1, by have := unhide HN; have := unhide HP; omega⟩
    subst hm
    exact ownsRow_succ hrow
  rcases hrow.2 with ⟨h, _⟩ | ⟨g1, c1, cur, h, hb, hg, hnc, hm, hs, ht⟩
  · cases h
  injection h with h1 h2 h3
  injection h1 with h1
  injection h1 with h1 _
  subst h1 h3
  have hlen := unhide HN
  rw [Nat.mul_one] at hs ht
  have hH : Holds (Value.int .i64) W2 g 0 l.toArray := holds_of_blockI hg (by rw [← hlen]; exact ht)
  have hgl : g < W2.heap.size := (Array.getElem?_eq_some_iff.1 hg).1
  have hso := Tryz.slices_Sort_int g 0 cap l W2 hH hgl (by have := unhide HF; omega)
  rw [← hlen] at hso
  have HSO := hide hso
  have HG := hide hG
  have HR : Hid (w.heap.size ≤ g ∧ n ≤ cap ∧ cap ≤ maxLen ∧ cur.size = cap ∧ W2.heap[g]? = some (.cells cur 3 (0, 0))) := ⟨hb, hnc, hm, hs, hg⟩
  clear hrow hG hb hg hnc hm hs ht hlen hH hgl hso
  go_wp2_with fail
  refine (unhide HSO).mono ?_; rintro e W3 ⟨rfl, q, os, rfl⟩
  have hr := unhide HR
  have hrow := ownsRow_sortedI (n := q) (os := os) (ts := sortI l) (sortI_len l) hr.1 hr.2.2.2.2 (by rw [← unhide HN]; exact hr.2.1) hr.2.2.1 (by rw [hr.2.2.2.1, Nat.mul_one])
  rw [← unhide HN] at hrow
  have hsl := (sl_of_row hrow (by rw [sortI_len]; exact unhide HF)).1
  have hbb : Below w.heap.size w (grow (putRow (Value.int .i64) (Sort.ahead W2 q) g 0 (sortI l).toArray) os) := (unhide HG).grown (grownBy_sortedI _) (unhide HG).size (fun j hj => by cases hj; exact hr.1)
  unfold sortI at hsl hbb
  have HSL := hide hsl; have HBB := hide hbb
  clear hr hrow hsl hbb
  generalize grow _ os = W4 at *
  go_wp2_with fail
  go_ret
  exact ⟨_, _, rfl, unhide HSL, unhide HBB⟩
theorem clubs_len {l : List Int} (h : okClubs l = true) : l ≠ [] := by
  rintro rfl
  exact absurd h (by decide)
set_option maxRecDepth 100000 in
set_option maxHeartbeats 1000000 in
theorem lot_any (s c : Int) (l : List Int) (A : Option Addr) (n k : Nat) (hn : n = l.length) (w : World) (hA : Sl w A l k) :
    Calls Tryz.prog 128 #[.agg #[.int .i64 s, .int .i64 c, .slice A n k]] w fun x w' => x = .returned (.bool (okLot s c l)) ∧ Below w.heap.size w w' := by
  obtain ⟨R, hR⟩ : ∃ R, R = okLot s c l := ⟨_, rfl⟩
  obtain ⟨b0, hb0⟩ : ∃ b, b = inR s 0 63 := ⟨_, rfl⟩
  obtain ⟨b1, hb1⟩ : ∃ b, b = inR c 0 15 := ⟨_, rfl⟩
  obtain ⟨b2, hb2⟩ : ∃ b, b = okClubs l := ⟨_, rfl⟩
  obtain ⟨b3, hb3⟩ : ∃ b, b = distinct l := ⟨_, rfl⟩
  have HR : Hid (R = (b0 && b1 && b2 && b3)) := by
    have : R = (b0 && b1 && b2 && b3) := by rw [hR, hb0, hb1, hb2, hb3]; rfl
    exact this
  rw [← hR]
  have HC0 := hide fun W => season_any s W
  have HC1 := hide fun W => comp_any c W
  rw [← hb0] at HC0
  rw [← hb1] at HC1
  have HA := hide hA; have HN := hide hn; have H2 := hide hb2; have H3 := hide hb3
  clear hR hb0 hb1 hb2 hb3 hA hn
  go_enter Tryz.func128, Tryz.ntmps128
  go_upto_region 1 with fail
  generalize hX1 : w.alloc _ = W1
  have hB1 : Below w.heap.size w W1 := hX1 ▸ (Below.refl _ _).alloc (Nat.le_refl _) _
  have HV := hide (boxedV w W1 [.int .i64 s, .int .i64 c, .slice A n k] 41 (by rw [← hX1]; rfl))
  have hc0 : W1.cell? ⟨w.heap.size, 0, none⟩ = some (.int .i64 s) := (unhide HV).cell rfl
  have hc1 : W1.cell? ⟨w.heap.size, 1, none⟩ = some (.int .i64 c) := (unhide HV).cell rfl
  have hc2 : W1.cell? ⟨w.heap.size, 2, none⟩ = some (.slice A n k) := (unhide HV).cell rfl
  have HB := hide hB1
  clear hX1 hB1
  go_wp2_with fail
  refine ((unhide HC0) W1).mono ?_; rintro x W2 ⟨rfl, rfl⟩
  cases b0
  case false =>
    go_wp2_with fail
    go_ret
    exact ⟨by rw [unhide HR]; rfl, unhide HB⟩
  go_wp2_with fail
  refine ((unhide HC1) W2).mono ?_; rintro x W3 ⟨rfl, rfl⟩
  cases b1
  case false =>
    go_wp2_with fail
    go_ret
    exact ⟨by rw [unhide HR]; rfl, unhide HB⟩
  have HC2 := hide (clubs_any W3 A n k l (unhide HN) ((unhide HA).keep (unhide HB)))
  rw [← unhide H2] at HC2
  go_wp2_with fail
  refine (unhide HC2).mono ?_; rintro x W4 ⟨rfl, rfl⟩
  cases b2
  case false =>
    go_wp2_with fail
    go_ret
    exact ⟨by rw [unhide HR]; rfl, unhide HB⟩
  go_wp2_with fail
  refine (values_any A n k W4).mono ?_; rintro x W5 ⟨rfl, hW5⟩
  have hB5 : Below W4.heap.size W4 W5 := hW5 ▸ (Below.refl _ _).alloc (Nat.le_refl _) _
  have hV5 := boxedV W4 W5 [.slice A n k] 22 (by rw [hW5]; rfl)
  have HB5 := hide (thenB (unhide HB) hB5)
  have HS := hide (sorted_any W4.heap.size A n k l W5 (hV5.cell rfl) (unhide HN) ((unhide HA).keep (unhide HB5)) (clubs_len (unhide H2).symm))
  clear hW5 hB5 hV5 hc0 hc1 hc2
  go_wp2_with fail
  refine (unhide HS).mono ?_; rintro x W6 ⟨A', k', rfl, hsl, hG⟩
  have HB6 := hide (thenB (unhide HB5) hG)
  have hin := incr_any W6 A' n k' (sortI l) (by rw [sortI_len]; exact unhide HN) hsl
  rw [incr_sort, ← unhide H3] at hin
  have HI := hide hin
  clear hsl hG hin
  go_wp2_with fail
  refine (unhide HI).mono ?_; rintro x W7 ⟨rfl, hG⟩
  have HB7 := hide (thenB (unhide HB6) hG)
  clear hG
  go_wp2_with fail
  go_ret
  exact ⟨by rw [unhide HR]; cases b3 <;> rfl, unhide HB7⟩
set_option maxRecDepth 100000 in
theorem lotOk : LotOk := by
  intro f a w hf hw
  show Calls Tryz.prog 127 #[.agg (fC f a).toArray] w fun x w' => x = .returned (.bool (okLot f.ls f.lc f.order)) ∧ Below w.heap.size w w'
  obtain ⟨z, hz⟩ : ∃ z, z = okLot f.ls f.lc f.order := ⟨_, rfl⟩
  rw [← hz]
  have HZ := hide hz
  clear hz
  obtain ⟨cs, hcs⟩ : ∃ cs, cs = fC f a := ⟨_, rfl⟩
  rw [← hcs]
  have HCS := hide hcs
  have HF := hide hf
  clear hcs hf hw
  go_enter Tryz.func127, Tryz.ntmps127
  go_upto_region 1 with fail
  generalize hX1 : w.alloc _ = W1
  have hB1 : Below w.heap.size w W1 := hX1 ▸ (Below.refl _ _).alloc (Nat.le_refl _) _
  have HV := hide (boxedV w W1 cs 45 (by rw [← hX1]; rfl))
  rw [unhide HCS] at HV
  have HB := hide hB1
  clear hX1 hB1 HCS
  refine wp_region_lit ?_
  refine wpList_plain rfl fun Kt hKt => ?_
  go_simp
  refine hKt _ _ ?_
  clear hKt Kt
  try simp only [List.getElem_toArray, List.getElem_cons_zero, List.getElem_cons_succ, Act.put, List.setIfInBounds_toArray, List.set_cons_zero, List.set_cons_succ]
  refine wpList_vload rfl 41 (.tmp 3) rfl w.heap.size 47 rfl _ Tryz.underlying41 rfl (lC f.ls f.lc f.order a.od a.nod) infoLt (unhide HV).fl ?_
  try simp only [List.getElem_toArray, List.getElem_cons_zero, List.getElem_cons_succ, Act.put, List.setIfInBounds_toArray, List.set_cons_zero, List.set_cons_succ]
  have hcc := lot_any f.ls f.lc f.order a.od f.order.length a.nod rfl W1 ((unhide HF).od.keep (unhide HB))
  rw [← unhide HZ] at hcc
  have HC := hide hcc
  clear hcc
  go_wp2_with fail
  refine (unhide HC).mono ?_; rintro x W2 ⟨rfl, hG⟩
  have HB2 := hide (thenB (unhide HB) hG)
  clear hG
  go_wp2_with fail
  go_ret
  exact ⟨rfl, unhide HB2⟩
set_option maxRecDepth 100000 in
theorem check_any' (f : Fc) (a : Ad) (w : World) (hf : FAt w f a) (hw : FWf f) : Calls Tryz.prog 13 #[.agg (fC f a).toArray] w fun x w' => x = .returned (.int .i64 (if okFact f then 0 else 70)) ∧ Below w.heap.size w w' := by
  obtain ⟨z, hz⟩ : ∃ z, z = okFact f := ⟨_, rfl⟩
  have HI := hide fun W (h : Below w.heap.size w W) => isFact_any lotOk f a W (hf.keep h) hw
  rw [← hz] at HI ⊢
  obtain ⟨cs, hcs⟩ : ∃ cs, cs = fC f a := ⟨_, rfl⟩
  rw [← hcs]
  have HCS := hide hcs
  have hv32 := hf.void
  have HV32 := hide hv32
  clear hcs hf hw hz hv32
  go_enter Tryz.func13, Tryz.ntmps13
  go_upto_region 1 with fail
  generalize hX1 : w.alloc _ = W1
  have hB1 : Below w.heap.size w W1 := hX1 ▸ (Below.refl _ _).alloc (Nat.le_refl _) _
  have HV := hide (boxedV w W1 cs 45 (by rw [← hX1]; rfl))
  rw [unhide HCS] at HV
  have HB := hide hB1
  clear hX1 hB1 HCS
  refine wp_region_lit ?_
  refine wpList_vload rfl 45 (.tmp 1) rfl w.heap.size 0 rfl _ Tryz.underlying45 rfl (fC f a) (by rw [fC_length _ _ (unhide HV32)]; exact infoFc) (unhide HV).range ?_
  try simp only [List.getElem_toArray, List.getElem_cons_zero, List.getElem_cons_succ, Act.put, List.setIfInBounds_toArray, List.set_cons_zero, List.set_cons_succ]
  go_wp2_with fail
  refine ((unhide HI) W1 (unhide HB)).mono ?_; rintro x W2 ⟨rfl, hG⟩
  have HB2 := hide (thenB (unhide HB) hG)
  clear hG
  cases z
  · go_wp2_with fail
    go_ret
    exact ⟨rfl, unhide HB2⟩
  · go_wp2_with fail
    go_ret
    exact ⟨rfl, unhide HB2⟩
end Go.Proofs.YtdmaopfaeigelaaGreatDoor
