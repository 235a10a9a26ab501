/- Contracts over the codec's program, each for every well-formed value: the reference's encode, Encode. (Written by wip/tools/gen_renc.py.) -/
import Derived.Test.YtclpbjdnollfcaaDoorCodRefDig
import Derived.Test.YtclpbjdnollfcaaDoorCodRefDepth
import Derived.Lib.SmallJoins
namespace Go.Proofs.YtclpbjdnollfcaaDoor
set_option linter.unusedSimpArgs false
set_option linter.unusedVariables false
open Go.RowKit

abbrev REncIs (N : Nat) : Prop := ∀ (V : Va), V.sz ≤ N → V.wf = true → V.enc.length ≤ 100000000 → ∀ v w, VAt w V v → Calls Tryd.prog 27 #[v] w (MadeB w V.enc)
theorem OwnM.mono {w : World} {b b' : Nat} {v : Value} {l : List UInt8} (h : OwnM w b v l) (hb : b' ≤ b) : OwnM w b' v l := by
  rcases h with h | ⟨g, cap, cur, fz, e, hg, r⟩
  · exact .inl h
  · exact .inr ⟨g, cap, cur, fz, e, by omega, r⟩
theorem OwnM.some {w : World} {b : Nat} {v : Value} {l : List UInt8} (h : OwnM w b v l) (h0 : 1 ≤ l.length) : ∃ g cap, v = .slice (some ⟨g, 0, none⟩) l.length cap ∧ ∀ j u, (Lib.byteCells l)[j]? = some u → w.cell? ((⟨g, 0, none⟩ : Addr).add j) = some u := by
  have hh := h
  rcases h with ⟨_, h⟩ | ⟨g, cap, cur, fz, rfl, _⟩
  · rw [h] at h0; simp at h0
  · exact ⟨g, cap, rfl, hh.cells⟩
theorem encT_ge (s : ByteArray) : s.size ≤ (encT s).length := by
  have e : s.data.toList.length = s.size := by simp
  unfold encT
  rw [List.length_append, List.length_cons, e]
  omega
theorem encT_len1 (s : ByteArray) : 1 ≤ (encT s).length := by
  obtain ⟨b, r, h, _⟩ := encT_head s
  rw [h]
  simp
theorem enc_len1 (V : Va) : 1 ≤ V.enc.length := by
  obtain ⟨b, r, h, _⟩ := enc_head V
  rw [h]
  simp

set_option maxRecDepth 100000 in
set_option maxHeartbeats 4000000 in
theorem renc_int (n : Int) (A : Option Addr) (m c : Nat) (A' : Option Addr) (m' c' : Nat) (s : ByteArray) (w : World) (hn : I64 n) : Calls Tryd.prog 27 #[vaV 1 n s A m c A' m' c'] w (MadeB w (105 :: Lib.itoa n ++ [101])) := by
  have hd := fun (W : World) => rdec_any n W hn
  have HC := hide hd
  have hil := Lib.itoa_length_le n hn.1 hn.2
  have hsz : (itoS n).size ≤ 21 := by show ((Lib.itoa n).toArray).size ≤ 21; simpa using hil
  have e1 : (⟨#[105]⟩ : ByteArray).size = 1 := rfl
  have e2 : (⟨#[101]⟩ : ByteArray).size = 1 := rfl
  have hadd1 := fun (W : World) => run_string_add_sum (P := Tryd.prog) (w := W) (⟨#[105]⟩ : ByteArray) (itoS n) (by omega)
  have hadd2 := fun (W : World) => run_string_add_sum (P := Tryd.prog) (w := W) ((⟨#[105]⟩ : ByteArray) ++ itoS n) (⟨#[101]⟩ : ByteArray) (by rw [ByteArray.size_append]; omega)
  have hcs : (((⟨#[105]⟩ : ByteArray) ++ itoS n) ++ ⟨#[101]⟩).size ≤ 23 := by rw [ByteArray.size_append, ByteArray.size_append]; omega
  have hcb : (((⟨#[105]⟩ : ByteArray) ++ itoS n) ++ ⟨#[101]⟩).data.toList = 105 :: Lib.itoa n ++ [101] := by unfold itoS; simp
  have HCS := hide hcs; have HCB := hide hcb
  have hconv := fun (W : World) (x : ByteArray) => run_bytes_of_string (P := Tryd.prog) W 9 28 5 x Tryd.underlying9 Tryd.underlying28 Tryd.underlying5
  generalize ((⟨#[105]⟩ : ByteArray) ++ itoS n) ++ ⟨#[101]⟩ = st at hadd2 HCS HCB
  generalize (⟨#[105]⟩ : ByteArray) ++ itoS n = s1 at hadd1 hadd2
  generalize itoS n = s0 at HC hadd1
  clear hd hil hsz e1 e2 hcs hcb
  go_enter Tryd.func27, Tryd.ntmps27
  go_wp2_with fail
  refine ((unhide HC) _).mono ?_; rintro e w1 ⟨rfl, rfl⟩
  go_wp2_with fail
  go_ret
  have hm := OwnM.made (w.alloc (.cells #[.int .i64 1, .int .i64 n, .string s, .slice A m c, .slice A' m' c'] 25)) st (grownCap (w.alloc (.cells #[.int .i64 1, .int .i64 n, .string s, .slice A m c, .slice A' m' c'] 25)) st.size 0 5) w.heap.size (by simp) (grownCap_ge _ _ _ _) (grownCap_le_maxLen _ _ _ _ (by have := unhide HCS; unfold maxLen; omega))
  rw [unhide HCB] at hm
  refine ⟨_, by simp, hm, ?_⟩
  exact (belowDrewN 1 ((Below.refl w.heap.size w).alloc (Nat.le_refl _) _)).alloc (by simp) _
set_option maxRecDepth 100000 in
set_option maxHeartbeats 4000000 in
theorem renc_text (n : Int) (A : Option Addr) (m c : Nat) (A' : Option Addr) (m' c' : Nat) (s : ByteArray) (w : World) (hs : s.size ≤ 100000000) : Calls Tryd.prog 27 #[vaV 2 n s A m c A' m' c'] w (MadeB w (encT s)) := by
  have HC := hide (fun (W : World) => rtext_any s W hs)
  go_enter Tryd.func27, Tryd.ntmps27
  go_wp2_with fail
  refine ((unhide HC) _).mono ?_; rintro e w1 ⟨v1, rfl, ho, hb⟩
  have HO := hide ho; have HB := hide hb
  clear ho hb
  go_wp2_with fail
  go_ret
  exact ⟨_, rfl, (unhide HO).mono (by simp), advB (Below.refl _ _) (unhide HB)⟩

set_option maxRecDepth 100000 in
set_option maxHeartbeats 16000000 in
theorem renc_list (N : Nat) (ih : Hid (REncIs N)) (n : Int) (s : ByteArray) (l : List Va) (ks : List ByteArray) (A : Option Addr) (c : Nat) (A' : Option Addr) (c' : Nat) (m m' : Nat) (w : World)
    (HN : Hid (Va.sz (Va.mk 3 n s l ks) ≤ N + 1)) (hm : m ≤ 140737488351232) (HL : Hid (l.length = m)) (HK : Hid (ks.length = m')) (HE : Hid (ElsAt w A l)) (HS : Hid (StrsAt w A' ks)) (HF : Hid (wfAll l = true)) (HLIM : Hid ((encL l).length + 2 ≤ 100000000)) :
    Calls Tryd.prog 27 #[vaV 3 n s A m c A' m' c'] w (MadeB w (108 :: encL l ++ [101])) := by
  have kc := fun (W : World) (C : Array Value) (n c g : Nat) (hg : g = W.heap.size) => Joins.run_convert_bytes_const_at (P := Tryd.prog) W 28 5 C n c g hg Tryd.underlying28 Tryd.underlying5
  go_enter Tryd.func27, Tryd.ntmps27
  go_wp2_with fail
  go_loopw [3, 4] (fun v i wr => ∃ j : Nat, j ≤ m ∧ i = .int .i64 (j : Int) ∧ OwnM wr (w.heap.size + 1) v (108 :: encL (l.take j)) ∧ Below (w.alloc (.cells #[.int .i64 3, .int .i64 n, .string s, .slice A m c, .slice A' m' c'] 25)).heap.size (w.alloc (.cells #[.int .i64 3, .int .i64 n, .string s, .slice A m c, .slice A' m' c'] 25)) wr) (fun _ i _ => m - (intOf i).toNat)
  case atStart => exact ⟨0, Nat.zero_le _, rfl, by simpa [encL] using OwnM.lit (w.alloc (.cells #[.int .i64 3, .int .i64 n, .string s, .slice A m c, .slice A' m' c'] 25)) 108 (w.heap.size + 1) (by simp), (Below.refl _ _).alloc (Nat.le_refl _) _⟩
  case round =>
    obtain ⟨j, hj, rfl, hown, hbr⟩ := hrel
    have hX := (hbr.block w.heap.size (by simp)).trans (heap_alloc_new w _)
    have HBR := hide (advB (Below.refl _ _) hbr); have HB0 := hide hbr; have HO := hide hown
    have f0 := (boxAt hX 0).1; have f1 := (boxAt hX 1).1; have f2 := (boxAt hX 2).1; have f3 := (boxAt hX 3).1; have f4 := (boxAt hX 4).1
    simp at f0 f1 f2 f3 f4
    clear hbr hX hown
    by_cases hlt : j < m
    · obtain ⟨x, hx⟩ : ∃ x, l[j]? = some x := ⟨_, List.getElem?_eq_getElem (by rw [unhide HL]; exact hlt)⟩
      obtain ⟨b, o, k1, n1, s1, A1, m1, c1, A2, m2, c2, rfl, d0, d1, d2, d3, d4, hv⟩ := (unhide HE) j x hx
      have hbw := World.block_lt_of_cell? w _ d0
      simp only at hbw
      rw [← (unhide HBR).cell (p := ⟨b, o + j * 5, none⟩) hbw] at d0
      rw [← (unhide HBR).cell (p := ⟨b, o + j * 5 + 1, none⟩) hbw] at d1
      rw [← (unhide HBR).cell (p := ⟨b, o + j * 5 + 2, none⟩) hbw] at d2
      rw [← (unhide HBR).cell (p := ⟨b, o + j * 5 + 3, none⟩) hbw] at d3
      rw [← (unhide HBR).cell (p := ⟨b, o + j * 5 + 4, none⟩) hbw] at d4
      have hj0 : (0 : Int) ≤ (j : Int) := Int.natCast_nonneg _
      have hjm : (j : Int) < (m : Int) := by omega
      have HX := hide ((unhide ih) x (sz_mem (unhide HN) hx) (wfAll_mem (unhide HF) hx) (by have := encL_bound hx; have := unhide HLIM; omega) _ wr (hv.later (unhide HBR)))
      have HTK := hide (encL_take hx)
      have HSUM := hide (show (108 :: encL (l.take j)).length + x.enc.length ≤ 1000000000 by have := encL_bound hx; have := unhide HLIM; simp; omega)
      have HOC := HO; have HBC := HB0
      clear hx hv
      go_wp2_with fail
      refine (unhide HX).mono ?_; rintro e w3 ⟨v3, rfl, ho3, hb3⟩
      obtain ⟨g3, cap3, rfl, hn3⟩ := ho3.some (enc_len1 x)
      have HO3 := hide (OwnM.later (unhide HOC) hb3); have HN3 := hide hn3
      have HB3 := hide ((unhide HBC).trans (hb3.mono (unhide HBC).size))
      have hbase3 : w.heap.size + 1 ≤ w3.heap.size := by have := (unhide HB3).size; simp at this; omega
      clear ho3 hb3 hn3 HX HOC HBC
      generalize hex : x.enc.length = ex
      have HEX := hide hex
      clear hex
      go_wp2_with (at_builtin; refine wpList_append_M rfl _ _ rfl (w.heap.size + 1) _ _ rfl (unhide HO3) ⟨g3, 0, none⟩ ex cap3 x.enc rfl (unhide HEX) (unhide HN3) (by have := unhide HSUM; have := unhide HEX; simp at *; omega) hbase3 ?_)
      intro v4 w4 hown4 hg4
      have HB4 := hide ((unhide HB3).grown hg4 (by simp; omega) (fun k hk => by have := ((unhide HO3).lt k hk).1; simp; omega))
      have HO4 := hide hown4
      clear hown4 hg4
      go_wp2_with fail
      go_roundw
      case rel => exact ⟨j + 1, by omega, by go_num, by rw [unhide HTK]; simpa [List.append_assoc] using unhide HO4, unhide HB4⟩
      case measure => simp [intOf]; omega
    · have hfull : encL (l.take j) = encL l := by rw [List.take_of_length_le (by rw [unhide HL]; omega)]
      rw [hfull] at HO
      have hbase : w.heap.size + 1 ≤ wr.heap.size := by have := (unhide HB0).size; simp at this; omega
      clear hfull
      go_wp2_with (at_builtin; refine wpList_append_M rfl _ _ rfl (w.heap.size + 1) _ (108 :: encL l) rfl ((unhide HO).later ((Below.refl _ _).alloc (Nat.le_refl _) _)) ⟨_, 0, none⟩ 1 1 [101] rfl rfl (cell_one_new _ _ _) (by have := unhide HLIM; simp; omega) (by simp; omega) ?_)
      intro v4 w4 hown4 hg4
      have HB4 := hide (((unhide HB0).alloc (unhide HB0).size (.cells #[.int .u8 101] 5)).grown hg4 (by simp; omega) (fun k hk => by have := ((unhide HO).lt k hk).1; simp; omega))
      have HO4 := hide hown4
      clear hown4 hg4
      go_wp2_with fail
      go_ret
      exact ⟨_, rfl, (unhide HO4).mono (by omega), advB (Below.refl _ _) (unhide HB4)⟩

set_option maxRecDepth 100000 in
set_option maxHeartbeats 16000000 in
theorem renc_dict (N : Nat) (ih : Hid (REncIs N)) (n : Int) (s : ByteArray) (l : List Va) (ks : List ByteArray) (A : Option Addr) (c : Nat) (A' : Option Addr) (c' : Nat) (m m' : Nat) (w : World)
    (HN : Hid (Va.sz (Va.mk 4 n s l ks) ≤ N + 1)) (hm : m ≤ 140737488351232) (HL : Hid (l.length = m)) (HK : Hid (ks.length = m)) (HE : Hid (ElsAt w A l)) (HS : Hid (StrsAt w A' ks)) (HF : Hid (wfAll l = true)) (HLIM : Hid ((encD l ks).length + 2 ≤ 100000000)) :
    Calls Tryd.prog 27 #[vaV 4 n s A m c A' m c'] w (MadeB w (100 :: encD l ks ++ [101])) := by
  have kc := fun (W : World) (C : Array Value) (n c g : Nat) (hg : g = W.heap.size) => Joins.run_convert_bytes_const_at (P := Tryd.prog) W 28 5 C n c g hg Tryd.underlying28 Tryd.underlying5
  go_enter Tryd.func27, Tryd.ntmps27
  go_wp2_with fail
  go_loopw [3, 4] (fun v i wr => ∃ j : Nat, j ≤ m ∧ i = .int .i64 (j : Int) ∧ OwnM wr (w.heap.size + 1) v (100 :: encD (l.take j) (ks.take j)) ∧ Below (w.alloc (.cells #[.int .i64 4, .int .i64 n, .string s, .slice A m c, .slice A' m c'] 25)).heap.size (w.alloc (.cells #[.int .i64 4, .int .i64 n, .string s, .slice A m c, .slice A' m c'] 25)) wr) (fun _ i _ => m - (intOf i).toNat)
  case atStart => exact ⟨0, Nat.zero_le _, rfl, by simpa [encD] using OwnM.lit ((w.alloc (.cells #[.int .i64 4, .int .i64 n, .string s, .slice A m c, .slice A' m c'] 25)).alloc _) 100 (w.heap.size + 1) (by simp), ((Below.refl _ _).alloc (Nat.le_refl _) _).alloc (by simp) _⟩
  case round =>
    obtain ⟨j, hj, rfl, hown, hbr⟩ := hrel
    have hX := (hbr.block w.heap.size (by simp)).trans (heap_alloc_new w _)
    have HBR := hide (advB (Below.refl _ _) hbr); have HB0 := hide hbr; have HO := hide hown
    have f0 := (boxAt hX 0).1; have f1 := (boxAt hX 1).1; have f2 := (boxAt hX 2).1; have f3 := (boxAt hX 3).1; have f4 := (boxAt hX 4).1
    simp at f0 f1 f2 f3 f4
    clear hbr hX hown
    by_cases hlt : j < m
    · obtain ⟨x, hx⟩ : ∃ x, l[j]? = some x := ⟨_, List.getElem?_eq_getElem (by rw [unhide HL]; exact hlt)⟩
      obtain ⟨b, o, k1, n1, s1, A1, m1, c1, A2, m2, c2, rfl, d0, d1, d2, d3, d4, hv⟩ := (unhide HE) j x hx
      have hbw := World.block_lt_of_cell? w _ d0
      simp only at hbw
      rw [← (unhide HBR).cell (p := ⟨b, o + j * 5, none⟩) hbw] at d0
      rw [← (unhide HBR).cell (p := ⟨b, o + j * 5 + 1, none⟩) hbw] at d1
      rw [← (unhide HBR).cell (p := ⟨b, o + j * 5 + 2, none⟩) hbw] at d2
      rw [← (unhide HBR).cell (p := ⟨b, o + j * 5 + 3, none⟩) hbw] at d3
      rw [← (unhide HBR).cell (p := ⟨b, o + j * 5 + 4, none⟩) hbw] at d4
      have hj0 : (0 : Int) ≤ (j : Int) := Int.natCast_nonneg _
      have hjm : (j : Int) < (m : Int) := by omega
      obtain ⟨q, hq⟩ : ∃ q, ks[j]? = some q := ⟨_, List.getElem?_eq_getElem (by rw [unhide HK]; exact hlt)⟩
      obtain ⟨bk, ok, rfl, hqc, _⟩ := (unhide HS) j q hq
      have hbk := World.block_lt_of_cell? w _ hqc
      simp only at hbk
      rw [← (unhide HBR).cell (p := ⟨bk, ok + j, none⟩) hbk] at hqc
      have hbnd := encD_bound hx hq
      have hqs : q.size ≤ 100000000 := by
        have := encT_ge q
        have := unhide HLIM
        omega
      have HQ := hide (rtext_any q wr hqs)
      have HXX := hide (fun (W : World) (hW : Below w.heap.size w W) => (unhide ih) x (sz_mem (unhide HN) hx) (wfAll_mem (unhide HF) hx) (by have := unhide HLIM; omega) _ W (hv.later hW))
      have HTK := hide (encD_take hx hq)
      have HSUM0 := hide (show (100 :: encD (l.take j) (ks.take j)).length + (encT q).length + x.enc.length ≤ 1000000000 by have := unhide HLIM; simp; omega)
      have HD := hide (And.intro d0 (And.intro d1 (And.intro d2 (And.intro d3 d4))))
      clear hx hv hq hbnd hqs d0 d1 d2 d3 d4
      go_wp2_with fail
      refine (unhide HQ).mono ?_; rintro e w1 ⟨v1, rfl, ho1, hb1⟩
      obtain ⟨g1, cap1, rfl, hn1⟩ := ho1.some (encT_len1 q)
      have HO1 := hide (OwnM.later (unhide HO) hb1); have HN1 := hide hn1
      have HB1 := hide ((unhide HB0).trans (hb1.mono (unhide HB0).size))
      have hbase1 : w.heap.size + 1 ≤ w1.heap.size := by have := (unhide HB1).size; simp at this; omega
      clear ho1 hb1 hn1 HQ
      generalize heq : (encT q).length = eq
      have HEQ := hide heq
      clear heq
      go_wp2_with (at_builtin; refine wpList_append_M rfl _ _ rfl (w.heap.size + 1) _ _ rfl (unhide HO1) ⟨g1, 0, none⟩ eq cap1 (encT q) rfl (unhide HEQ) (unhide HN1) (by have := unhide HSUM0; have := unhide HEQ; simp at *; omega) hbase1 ?_)
      intro v2 w2 hown2 hg2
      have HBC := hide ((unhide HB1).grown hg2 (by simp; omega) (fun k hk => by have := ((unhide HO1).lt k hk).1; simp; omega))
      have HOC := hide hown2
      have HBR2 := hide (advB (Below.refl _ _) (unhide HBC))
      have HX := hide ((unhide HXX) w2 (unhide HBR2))
      have hX2 := ((unhide HBC).block w.heap.size (by simp)).trans (heap_alloc_new w _)
      clear f0 f1 f2 f3 f4 hqc
      have f0 := (boxAt hX2 0).1; have f1 := (boxAt hX2 1).1; have f2 := (boxAt hX2 2).1; have f3 := (boxAt hX2 3).1; have f4 := (boxAt hX2 4).1
      simp at f0 f1 f2 f3 f4
      have HBX := hide (show Below wr.heap.size wr w2 → True from fun _ => trivial)
      obtain ⟨d0, d1, d2, d3, d4⟩ := unhide HD
      rw [(unhide HBR).cell (p := ⟨b, o + j * 5, none⟩) hbw, ← (unhide HBR2).cell (p := ⟨b, o + j * 5, none⟩) hbw] at d0
      rw [(unhide HBR).cell (p := ⟨b, o + j * 5 + 1, none⟩) hbw, ← (unhide HBR2).cell (p := ⟨b, o + j * 5 + 1, none⟩) hbw] at d1
      rw [(unhide HBR).cell (p := ⟨b, o + j * 5 + 2, none⟩) hbw, ← (unhide HBR2).cell (p := ⟨b, o + j * 5 + 2, none⟩) hbw] at d2
      rw [(unhide HBR).cell (p := ⟨b, o + j * 5 + 3, none⟩) hbw, ← (unhide HBR2).cell (p := ⟨b, o + j * 5 + 3, none⟩) hbw] at d3
      rw [(unhide HBR).cell (p := ⟨b, o + j * 5 + 4, none⟩) hbw, ← (unhide HBR2).cell (p := ⟨b, o + j * 5 + 4, none⟩) hbw] at d4
      have HSUM := hide (show ((100 :: encD (l.take j) (ks.take j)) ++ encT q).length + x.enc.length ≤ 1000000000 by have := unhide HSUM0; simp at *; omega)
      clear hown2 hg2 hX2 HXX HBX HO1 HN1 HB1 HD
      go_wp2_with fail
      refine (unhide HX).mono ?_; rintro e w3 ⟨v3, rfl, ho3, hb3⟩
      obtain ⟨g3, cap3, rfl, hn3⟩ := ho3.some (enc_len1 x)
      have HO3 := hide (OwnM.later (unhide HOC) hb3); have HN3 := hide hn3
      have HB3 := hide ((unhide HBC).trans (hb3.mono (unhide HBC).size))
      have hbase3 : w.heap.size + 1 ≤ w3.heap.size := by have := (unhide HB3).size; simp at this; omega
      clear ho3 hb3 hn3 HX HOC HBC
      generalize hex : x.enc.length = ex
      have HEX := hide hex
      clear hex
      go_wp2_with (at_builtin; refine wpList_append_M rfl _ _ rfl (w.heap.size + 1) _ _ rfl (unhide HO3) ⟨g3, 0, none⟩ ex cap3 x.enc rfl (unhide HEX) (unhide HN3) (by have := unhide HSUM; have := unhide HEX; simp at *; omega) hbase3 ?_)
      intro v4 w4 hown4 hg4
      have HB4 := hide ((unhide HB3).grown hg4 (by simp; omega) (fun k hk => by have := ((unhide HO3).lt k hk).1; simp; omega))
      have HO4 := hide hown4
      clear hown4 hg4
      go_wp2_with fail
      go_roundw
      case rel => exact ⟨j + 1, by omega, by go_num, by rw [unhide HTK]; simpa [List.append_assoc] using unhide HO4, unhide HB4⟩
      case measure => simp [intOf]; omega
    · have hfull : encD (l.take j) (ks.take j) = encD l ks := by rw [List.take_of_length_le (by rw [unhide HL]; omega), List.take_of_length_le (by rw [unhide HK]; omega)]
      rw [hfull] at HO
      have hbase : w.heap.size + 1 ≤ wr.heap.size := by have := (unhide HB0).size; simp at this; omega
      clear hfull
      go_wp2_with (at_builtin; refine wpList_append_M rfl _ _ rfl (w.heap.size + 1) _ (100 :: encD l ks) rfl ((unhide HO).later ((Below.refl _ _).alloc (Nat.le_refl _) _)) ⟨_, 0, none⟩ 1 1 [101] rfl rfl (cell_one_new _ _ _) (by have := unhide HLIM; simp; omega) (by simp; omega) ?_)
      intro v4 w4 hown4 hg4
      have HB4 := hide (((unhide HB0).alloc (unhide HB0).size (.cells #[.int .u8 101] 5)).grown hg4 (by simp; omega) (fun k hk => by have := ((unhide HO).lt k hk).1; simp; omega))
      have HO4 := hide hown4
      clear hown4 hg4
      go_wp2_with fail
      go_ret
      exact ⟨_, rfl, (unhide HO4).mono (by omega), advB (Below.refl _ _) (unhide HB4)⟩

theorem renc_all (N : Nat) : REncIs N := by
  induction N with
  | zero => intro V hV; have := sz_pos V; omega
  | succ N ih =>
    intro V hV hwf hlim v w h
    have hbd := h.bd
    obtain ⟨k, n, s, l, ks, A, c, A', c', rfl, rfl, _, hn, _, h1, h2, _, _, hE, hS⟩ := h.open
    have hwf' := hwf
    simp only [Va.wf, Bool.and_eq_true] at hwf'
    obtain ⟨hfit, hall⟩ := hwf'
    rcases fits_cases hfit with ⟨rfl, rfl, e1, e2⟩ | ⟨rfl, rfl, e1, e2⟩ | ⟨rfl, rfl, rfl, e2⟩ | ⟨rfl, rfl, rfl, e2, hi⟩
    · have e : Va.enc (.mk 1 n ⟨#[]⟩ l ks) = 105 :: Lib.itoa n ++ [101] := by simp [Va.enc]
      rw [e]
      exact renc_int n A _ c A' _ c' _ w hn
    · have e : Va.enc (.mk 2 0 s l ks) = encT s := by simp [Va.enc]
      rw [e] at hlim ⊢
      exact renc_text 0 A _ c A' _ c' s w (Nat.le_trans (encT_ge s) hlim)
    · have e : Va.enc (.mk 3 0 ⟨#[]⟩ l ks) = 108 :: encL l ++ [101] := by simp [Va.enc]
      rw [e] at hlim ⊢
      exact renc_list N ih 0 ⟨#[]⟩ l ks A c A' c' l.length ks.length w hV h1 rfl rfl hE hS hall (by simp at hlim; show _ ≤ _; omega)
    · have e : Va.enc (.mk 4 0 ⟨#[]⟩ l ks) = 100 :: encD l ks ++ [101] := by simp [Va.enc]
      rw [e] at hlim ⊢
      rw [e2]
      exact renc_dict N ih 0 ⟨#[]⟩ l ks A c A' c' l.length ks.length w hV h1 rfl e2 hE hS hall (by simp at hlim; show _ ≤ _; omega)
theorem renc_any (V : Va) (hwf : V.wf = true) (hlim : V.enc.length ≤ 100000000) (v : Value) (w : World) (h : VAt w V v) : Calls Tryd.prog 27 #[v] w (MadeB w V.enc) := renc_all V.sz V (Nat.le_refl _) hwf hlim v w h
end Go.Proofs.YtclpbjdnollfcaaDoor
