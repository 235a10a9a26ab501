/- A contract over the codec's program: the reference's Decode where Value reads a well-formed value to the end. (Written by wip/tools/gen_racc.py.) -/
import Derived.Test.YtclpbjdnollfcaaDoorCodRList
import Derived.Test.YtclpbjdnollfcaaDoorCodRDict
import Derived.Deep.RegionHeld3
import Derived.Deep.RegionWith
namespace Go.Proofs.YtclpbjdnollfcaaDoor
set_option linter.unusedSimpArgs false
set_option linter.unusedVariables false
open Go.RowKit

theorem valR_nil (L d : Nat) : valR L d [] = none := by
  cases d <;> rfl
theorem valR_list {d p : Nat} {l : List UInt8} {b : UInt8} (hdr : l.drop p = b :: l.drop (p + 1)) (h1 : b.toNat ≠ 105) (h2 : b.toNat = 108) (hlen : (l.drop (p + 1)).length + 1 = l.length - p) :
    (seqR l.length (valR l.length d) 3 (l.length - p) (l.drop (p + 1)) [] []).map (fun p => (Va.mk 3 0 ⟨#[]⟩ p.1.1 p.1.2, p.2)) = valR l.length (d + 1) (l.drop p) := by
  rw [hdr, ← hlen]
  simp only [valR, valRF, if_neg h1, if_pos h2, seqR, if_neg (show ¬ (3 : Int) = 4 by decide), Option.map_map]
  rfl
theorem valR_dict {d p : Nat} {l : List UInt8} {b : UInt8} (hdr : l.drop p = b :: l.drop (p + 1)) (h1 : b.toNat ≠ 105) (h2 : b.toNat ≠ 108) (h3 : b.toNat = 100) (hlen : (l.drop (p + 1)).length + 1 = l.length - p) :
    (seqR l.length (valR l.length d) 4 (l.length - p) (l.drop (p + 1)) [] []).map (fun p => (Va.mk 4 0 ⟨#[]⟩ p.1.1 p.1.2, p.2)) = valR l.length (d + 1) (l.drop p) := by
  rw [hdr, ← hlen]
  simp only [valR, valRF, if_neg h1, if_neg h2, if_pos h3, seqR, if_true]
theorem rvalue_int (x : Int) (D : Nat) (w : World) (rb : Nat) (A : Option Addr) (c : Nat) (l : List UInt8) (p : Nat) (b : UInt8) (h : RR w rb A c l p false) (hb : l[p]? = some b) (hbi : b.toNat = 105) :
    Calls Tryd.prog 34 #[.pointer (some ⟨rb, 0, none⟩), .int .i64 x] w (RVal rb A c l D ((intR (l.drop (p + 1))).map fun p => (.mk 1 p.1 ⟨#[]⟩ [] [], p.2)) w) := by
  cases hb2 : l[p + 1]? with
  | none =>
    rw [drop_none hb2]
    exact value_int_end x D w rb A c l p b h hb hbi hb2
  | some b2 =>
    by_cases h45 : b2.toNat = 45
    · have := value_int_neg x D w rb A c l p b h hb hbi b2 hb2 h45 _ rfl
      rw [drop_at hb2]
      simp only [intR, if_pos h45]
      cases hn : numR 101 9223372036854775808 (l.drop (p + 2)) with
      | none => rw [hn] at this; simpa [hn] using this
      | some q =>
        obtain ⟨n, t⟩ := q
        rw [hn] at this
        by_cases h0 : n = 0
        · simpa [h0] using this
        · simpa [h0] using this
    · have := value_int_pos x D w rb A c l p b h hb hbi b2 hb2 h45 _ rfl
      rw [drop_at hb2] at this ⊢
      simp only [intR, if_neg h45, Option.map_map]
      exact this
theorem rvalue_any : ∀ d, d ≤ 16 → ValRIs d := by
  intro d
  induction d with
  | zero =>
    intro _ w rb A c l p h hp hc x hx
    have hx' : x = 16 := by omega
    subst hx'
    cases hb : l[p]? with
    | none =>
      rw [drop_none hb, valR_nil]
      exact value_end _ _ w rb A c l p h (by rw [List.getElem?_eq_none_iff] at hb; omega)
    | some b =>
      have hdr := drop_at hb
      by_cases h105 : b.toNat = 105
      · rw [hdr]
        simp only [valR, valRF, if_pos h105]
        exact rvalue_int 16 0 w rb A c l p b h hb h105
      · by_cases h108 : b.toNat = 108
        · rw [hdr]
          simp only [valR, valRF, if_neg h105, if_pos h108]
          exact value_deep_list 0 w rb A c l p b h hb h108
        · by_cases h100 : b.toNat = 100
          · rw [hdr]
            simp only [valR, valRF, if_neg h105, if_neg h108, if_pos h100]
            exact value_deep_dict 0 w rb A c l p b h hb h100
          · refine value_text_ref 16 0 w rb A c l p b h hb ⟨h105, h108, h100⟩ hc _ ?_
            rw [hdr]
            simp only [valR, valRF, if_neg h105, if_neg h108, if_neg h100]
  | succ d ih =>
    intro hd w rb A c l p h hp hc x hx
    have hl := h.2.2
    cases hb : l[p]? with
    | none =>
      rw [drop_none hb, valR_nil]
      exact value_end _ _ w rb A c l p h (by rw [List.getElem?_eq_none_iff] at hb; omega)
    | some b =>
      have hpl : p < l.length := (List.getElem?_eq_some_iff.1 hb).1
      have hdr := drop_at hb
      have hlen : (l.drop (p + 1)).length + 1 = l.length - p := by rw [List.length_drop]; omega
      by_cases h105 : b.toNat = 105
      · rw [hdr]
        simp only [valR, valRF, if_pos h105]
        exact rvalue_int x (d + 1) w rb A c l p b h hb h105
      · by_cases h108 : b.toNat = 108
        · have := rvalue_list d (by omega) (hide (ih (by omega))) x hx w rb A c l p b h hb h108 hc _ rfl
          refine (valR_list hdr h105 h108 hlen) ▸ this
        · by_cases h100 : b.toNat = 100
          · have := rvalue_dict d (by omega) (hide (ih (by omega))) x hx w rb A c l p b h hb h100 hc _ rfl
            refine (valR_dict hdr h105 h108 h100 hlen) ▸ this
          · refine value_text_ref x (d + 1) w rb A c l p b h hb ⟨h105, h108, h100⟩ hc _ ?_
            rw [hdr]
            simp only [valR, valRF, if_neg h105, if_neg h108, if_neg h100]


theorem conv_raw (W : World) (A : Option Addr) (c : Nat) (l : List UInt8) (h : RawAt W A l) (hA : A = none → l = []) : (convert 28 9 (.slice A l.length c)).run Tryd.prog W = .ok (.string ⟨l.toArray⟩) W := by
  cases A with
  | none =>
    have e := hA rfl
    subst e
    exact run_convert_bytes_nil (P := Tryd.prog) W 28 5 Tryd.underlying28 Tryd.underlying5 0 c 9 Tryd.underlying9
  | some a =>
    cases l with
    | nil => 
      refine run_convert_bytes_back (P := Tryd.prog) W 28 9 5 a c [] Tryd.underlying28 Tryd.underlying5 Tryd.underlying9 (fun j hj => by simp at hj)
    | cons b t =>
      refine run_convert_bytes_back (P := Tryd.prog) W 28 9 5 a c (b :: t) Tryd.underlying28 Tryd.underlying5 Tryd.underlying9 (fun j hj => ?_)
      obtain ⟨g, o, e, hc⟩ := h j _ (List.getElem?_eq_getElem hj)
      injection e with e
      subst e
      have hadd : (⟨g, o, none⟩ : Addr).add j = ⟨g, o + j, none⟩ := by unfold Addr.add; split <;> simp_all
      rw [hadd]
      exact hc
theorem conv_own (W : World) (N : Nat) (v : Value) (l : List UInt8) (h : OwnM W N v l) : (convert 28 9 v).run Tryd.prog W = .ok (.string ⟨l.toArray⟩) W := by
  rcases h with ⟨rfl, rfl⟩ | ⟨g, cap, cur, fz, rfl, hb, hg, h1, h2, h3, h4, h5⟩
  · exact conv_raw W none 0 [] (fun i b hi => by simp at hi) (fun _ => rfl)
  · refine conv_raw W _ cap l (fun i b hi => ⟨g, 0, rfl, ?_⟩) (fun h => by cases h)
    have hil := (List.getElem?_eq_some_iff.1 hi).1
    have hx : (cur.toList.take l.length)[i]? = some (.int .u8 (b.toNat : Int)) := by rw [h5]; simp [Lib.byteCells, hi]
    rw [List.getElem?_take_of_lt hil] at hx
    have hx2 : cur[i]? = some (.int .u8 (b.toNat : Int)) := by simpa using hx
    simp [World.cell?, hg, hx2]

set_option maxRecDepth 100000 in
set_option maxHeartbeats 8000000 in
theorem rdecode_accept (A : Option Addr) (c : Nat) (l : List UInt8) (w : World) (hB : BAt w (.slice A l.length c) l) (hl : l.length ≤ 2000) (hbd : ∀ V, decF l = some V → V.bd) (V : Va) (hV : valR l.length 16 l = some (V, [])) (hck : chkE V = 0) : Calls Tryd.prog 17 #[.slice A l.length c] w (Decoded w (decF l)) := by
  have HR := hide (rr_new (.cells zeroCells 25) hB hl)
  have HBB := hide hB
  have HND := hide (fun hnot => decF_none hl hbd hnot)
  have HGD := hide (valR_good hl 16 l V [] hV)
  have HV : Hid (∀ W, RR W (w.heap.size + 1) A c l 0 false → Calls Tryd.prog 34 #[.pointer (some ⟨w.heap.size + 1, 0, none⟩), .int .i64 0] W (RVal (w.heap.size + 1) A c l 16 (some (V, [])) W)) := fun W hW => by
    have := rvalue_any 16 (Nat.le_refl _) W (w.heap.size + 1) A c l 0 hW (Nat.zero_le _) (unhide HR).2 0 (by decide)
    rw [List.drop_zero, hV] at this
    exact this
  have HVR := hide hV; have HCK := hide hck
  clear hB hbd hV hck
  go_enter Tryd.func17, Tryd.ntmps17
  go_wp2_with fail
  refine ((unhide HV) _ (unhide HR).1).mono ?_
  rintro e1 w2 ⟨hm2, k, n, s, B, m, c1, B', m', c1', p', rfl, hvn, hpl, hdt, hR⟩
  obtain rfl : p' = l.length := by
    have := congrArg List.length hdt
    rw [List.length_drop] at this
    simp at this
    omega
  have hh2 : w2.heap[w.heap.size]? = some (.cells zeroCells 25 (0, 0)) := (hm2.block w.heap.size (by simp; omega) (by simp)).trans ((heap_alloc_old _ _ (by simp)).trans (heap_alloc_new _ _))
  have HB2 : Hid (Below w.heap.size w w2) := (((Below.refl w.heap.size w).alloc (Nat.le_refl _) _).alloc (by simp) _).grown hm2 (by simp; omega) (fun k hk => by injection hk with hk; omega)
  have hz2 : w.heap.size < w2.heap.size := lt_of_block hh2
  have f0 := (boxAt hh2 0).1; have f1 := (boxAt hh2 1).1; have f2 := (boxAt hh2 2).1; have f3 := (boxAt hh2 3).1; have f4 := (boxAt hh2 4).1
  have g0 := (boxAt hh2 0).2; have g1 := (boxAt hh2 1).2; have g2 := (boxAt hh2 2).2; have g3 := (boxAt hh2 3).2; have g4 := (boxAt hh2 4).2
  simp at f0 f1 f2 f3 f4
  have HX2 := hide hh2
  have hsz2 := hm2.size
  have hr1 := hR.c1; have hr2 := hR.c2
  have hrz := hR.lt
  have HVN : Hid (VIn w2 (fun b => w.heap.size + 2 ≤ b ∧ b < w2.heap.size) V (vaV k n s B m c1 B' m' c1')) := hvn.keep (fun b hb => ⟨by have := hb.1; simp at this; omega, hb.2⟩) fun b _ => rfl
  have hvat := hvn.at
  have hR3 := hR.below ((Below.refl _ _).alloc (Nat.le_refl _) (.cells #[.int .i64 k, .int .i64 n, .string s, .slice B m c1, .slice B' m' c1'] 25))
  have HR3 := hide hR3
  have HXv := hide (heap_alloc_new w2 (.cells #[.int .i64 k, .int .i64 n, .string s, .slice B m c1, .slice B' m' c1'] 25))
  have HXz := hide ((heap_alloc_old w2 (.cells #[.int .i64 k, .int .i64 n, .string s, .slice B m c1, .slice B' m' c1'] 25) hz2).trans (unhide HX2))
  have HBw := hide ((unhide HB2).alloc (unhide HB2).size (.cells #[.int .i64 k, .int .i64 n, .string s, .slice B m c1, .slice B' m' c1'] 25))
  have HB23 := hide ((Below.refl w2.heap.size w2).alloc (Nat.le_refl _) (.cells #[.int .i64 k, .int .i64 n, .string s, .slice B m c1, .slice B' m' c1'] 25))
  have HVAT := hide hvat
  have hne : ((l.length : Int) != (l.length : Int)) = false := by simp
  clear hR hR3 hvn hdt hvat hm2 HV HR hsz2
  go_wp2_with fail
  clear f0 f1 f2 f3 f4 g0 g1 g2 g3 g4 hr1 hr2 HX2
  revert HR3 HXv HXz HBw HB23
  generalize (w2.alloc (.cells #[.int .i64 k, .int .i64 n, .string s, .slice B m c1, .slice B' m' c1'] 25)) = W3
  intro HR3 HXv HXz HBw HB23
  have HC1 : Hid (∀ W, Below W3.heap.size W3 W → Calls Tryd.prog 15 #[vaV k n s B m c1 B' m' c1'] W fun e w'' => e = .returned (.int .i64 0) ∧ Below W.heap.size W w'') := fun W hW => by
    have := rcheck_any V (by have := (unhide HGD).2.2; omega) _ W ((unhide HVAT).later (thenB (unhide HB23) hW))
    rw [unhide HCK] at this
    exact this
  have HE1 : Hid (∀ W, Below W3.heap.size W3 W → Calls Tryd.prog 27 #[vaV k n s B m c1 B' m' c1'] W (MadeB W V.enc)) := fun W hW =>
    renc_any V (chk_split (unhide HCK)).1 (by have := (unhide HGD).2.1; simp at this; omega) _ W ((unhide HVAT).later (thenB (unhide HB23) hW))
  have HCV : Hid (∀ W, Below W3.heap.size W3 W → (convert 28 9 (.slice A l.length c)).run Tryd.prog W = .ok (.string ⟨l.toArray⟩) W) := fun W hW => by
    obtain ⟨A', c', e, hA, h1, h2, h3⟩ := unhide HBB
    injection e with e1 _ e3
    subst e1 e3
    refine conv_raw W A c l (h3.later ((unhide HBw).trans (hW.mono (unhide HBw).size))) (fun h => ?_)
    rcases hA with ⟨_, h, _⟩ | ⟨g, o, h', _⟩
    · exact h
    · rw [h] at h'; cases h'
  have s0 := (boxAt (unhide HXv) 0).1; have s1 := (boxAt (unhide HXv) 1).1; have s2 := (boxAt (unhide HXv) 2).1; have s3 := (boxAt (unhide HXv) 3).1; have s4 := (boxAt (unhide HXv) 4).1
  simp at s0 s1 s2 s3 s4
  have s5 := (unhide HR3).c1; have s6 := (unhide HR3).c2
  have HS0 : Hid ((W3.cell? ⟨w2.heap.size, 0, none⟩ = some (.int .i64 k) ∧ W3.cell? ⟨w2.heap.size, 1, none⟩ = some (.int .i64 n) ∧ W3.cell? ⟨w2.heap.size, 2, none⟩ = some (.string s) ∧ W3.cell? ⟨w2.heap.size, 3, none⟩ = some (.slice B m c1) ∧ W3.cell? ⟨w2.heap.size, 4, none⟩ = some (.slice B' m' c1') ∧ W3.cell? ⟨w.heap.size + 1, 1, none⟩ = some (.int .i64 (l.length : Int)) ∧ W3.cell? ⟨w.heap.size + 1, 2, none⟩ = some (.bool false)) ∧ Below W3.heap.size W3 W3) := ⟨⟨s0, s1, s2, s3, s4, s5, s6⟩, Below.refl _ _⟩
  clear s0 s1 s2 s3 s4 s5 s6
  refine wp_region_held_drew (S := fun W => (W.cell? ⟨w2.heap.size, 0, none⟩ = some (.int .i64 k) ∧ W.cell? ⟨w2.heap.size, 1, none⟩ = some (.int .i64 n) ∧ W.cell? ⟨w2.heap.size, 2, none⟩ = some (.string s) ∧ W.cell? ⟨w2.heap.size, 3, none⟩ = some (.slice B m c1) ∧ W.cell? ⟨w2.heap.size, 4, none⟩ = some (.slice B' m' c1') ∧ W.cell? ⟨w.heap.size + 1, 1, none⟩ = some (.int .i64 (l.length : Int)) ∧ W.cell? ⟨w.heap.size + 1, 2, none⟩ = some (.bool false)) ∧ Below W3.heap.size W3 W) (by kernel_rfl) (keep7 (unhide HS0) (belowDrewN 1 (Below.refl _ _))) (fun hHeld => ?_)
  refine wpAnyH_take (i := 0) (v := ?_) rfl (by kernel_rfl) (by kernel_rfl) (by kernel_rfl) (fun _ _ _ h => h) (Or.inl ⟨by kernel_rfl, ?_⟩) (by assumption) ?_
  rotate_left
  · rintro W ⟨⟨q0, q1, q2, q3, q4, q5, q6⟩, hqB⟩
    try dsimp only at q0 q1 q2 q3 q4 q5 q6
    go_simp
    try with_reducible rfl
  try simp only [Act.put, List.setIfInBounds_toArray, List.set_cons_zero, List.set_cons_succ]
  refine wpAnyH_take (i := 1) (v := ?_) rfl (by kernel_rfl) (by kernel_rfl) (by kernel_rfl) (fun _ _ _ h => h) (Or.inl ⟨by kernel_rfl, ?_⟩) (by assumption) ?_
  rotate_left
  · rintro W ⟨⟨q0, q1, q2, q3, q4, q5, q6⟩, hqB⟩
    try dsimp only at q0 q1 q2 q3 q4 q5 q6
    go_simp
    try with_reducible rfl
  try simp only [Act.put, List.setIfInBounds_toArray, List.set_cons_zero, List.set_cons_succ]
  refine wpAnyH_take (i := 2) (v := ?_) rfl (by kernel_rfl) (by kernel_rfl) (by kernel_rfl) (fun _ _ _ h => h) (Or.inl ⟨by kernel_rfl, ?_⟩) (by assumption) ?_
  rotate_left
  · rintro W ⟨⟨q0, q1, q2, q3, q4, q5, q6⟩, hqB⟩
    try dsimp only at q0 q1 q2 q3 q4 q5 q6
    go_simp
    try with_reducible rfl
  try simp only [Act.put, List.setIfInBounds_toArray, List.set_cons_zero, List.set_cons_succ]
  refine wpAnyH_take (i := 3) (v := ?_) rfl (by kernel_rfl) (by kernel_rfl) (by kernel_rfl) (fun _ _ _ h => h) (Or.inl ⟨by kernel_rfl, ?_⟩) (by assumption) ?_
  rotate_left
  · rintro W ⟨⟨q0, q1, q2, q3, q4, q5, q6⟩, hqB⟩
    try dsimp only at q0 q1 q2 q3 q4 q5 q6
    go_simp
    try with_reducible rfl
  try simp only [Act.put, List.setIfInBounds_toArray, List.set_cons_zero, List.set_cons_succ]
  refine wpAnyH_take (i := 4) (v := ?_) rfl (by kernel_rfl) (by kernel_rfl) (by kernel_rfl) (fun _ _ _ h => h) (Or.inl ⟨by kernel_rfl, ?_⟩) (by assumption) ?_
  rotate_left
  · rintro W ⟨⟨q0, q1, q2, q3, q4, q5, q6⟩, hqB⟩
    try dsimp only at q0 q1 q2 q3 q4 q5 q6
    go_simp
    try with_reducible rfl
  try simp only [Act.put, List.setIfInBounds_toArray, List.set_cons_zero, List.set_cons_succ]
  refine wpAnyH_take (i := 5) (v := ?_) rfl (by kernel_rfl) (by kernel_rfl) (by kernel_rfl) (fun _ _ _ h => h) (Or.inl ⟨by kernel_rfl, ?_⟩) (by assumption) ?_
  rotate_left
  · rintro W ⟨⟨q0, q1, q2, q3, q4, q5, q6⟩, hqB⟩
    try dsimp only at q0 q1 q2 q3 q4 q5 q6
    go_simp
    try with_reducible rfl
  try simp only [Act.put, List.setIfInBounds_toArray, List.set_cons_zero, List.set_cons_succ]
  refine wpAnyH_take (i := 6) (v := ?_) rfl (by kernel_rfl) (by kernel_rfl) (by kernel_rfl) (fun _ _ _ h => h) (Or.inl ⟨by kernel_rfl, ?_⟩) (by assumption) ?_
  rotate_left
  · rintro W ⟨⟨q0, q1, q2, q3, q4, q5, q6⟩, hqB⟩
    try dsimp only at q0 q1 q2 q3 q4 q5 q6
    go_simp
    try with_reducible rfl
  try simp only [Act.put, List.setIfInBounds_toArray, List.set_cons_zero, List.set_cons_succ]
  refine wpAnyH_take (i := 7) (v := ?_) rfl (by kernel_rfl) (by kernel_rfl) (by kernel_rfl) (fun _ _ _ h => h) (Or.inl ⟨by kernel_rfl, ?_⟩) (by assumption) ?_
  rotate_left
  · rintro W ⟨⟨q0, q1, q2, q3, q4, q5, q6⟩, hqB⟩
    try dsimp only at q0 q1 q2 q3 q4 q5 q6
    go_simp
    try with_reducible rfl
  try simp only [Act.put, List.setIfInBounds_toArray, List.set_cons_zero, List.set_cons_succ]
  refine wpAnyH_take (i := 8) (v := ?_) rfl (by kernel_rfl) (by kernel_rfl) (by kernel_rfl) (fun _ _ _ h => h) (Or.inl ⟨by kernel_rfl, ?_⟩) (by assumption) ?_
  rotate_left
  · rintro W ⟨⟨q0, q1, q2, q3, q4, q5, q6⟩, hqB⟩
    try dsimp only at q0 q1 q2 q3 q4 q5 q6
    go_simp
    try with_reducible rfl
  try simp only [Act.put, List.setIfInBounds_toArray, List.set_cons_zero, List.set_cons_succ]
  refine wpAnyH_take (i := 9) (v := ?_) rfl (by kernel_rfl) (by kernel_rfl) (by kernel_rfl) (fun _ _ _ h => h) (Or.inl ⟨by kernel_rfl, ?_⟩) (by assumption) ?_
  rotate_left
  · rintro W ⟨⟨q0, q1, q2, q3, q4, q5, q6⟩, hqB⟩
    try dsimp only at q0 q1 q2 q3 q4 q5 q6
    go_simp
    try with_reducible rfl
  try simp only [Act.put, List.setIfInBounds_toArray, List.set_cons_zero, List.set_cons_succ]
  refine wpAnyH_take (i := 10) (v := ?_) rfl (by kernel_rfl) (by kernel_rfl) (by kernel_rfl) (fun _ _ _ h => h) (Or.inl ⟨by kernel_rfl, ?_⟩) (by assumption) ?_
  rotate_left
  · rintro W ⟨⟨q0, q1, q2, q3, q4, q5, q6⟩, hqB⟩
    try dsimp only at q0 q1 q2 q3 q4 q5 q6
    go_simp
    try with_reducible rfl
  try simp only [Act.put, List.setIfInBounds_toArray, List.set_cons_zero, List.set_cons_succ]
  refine wpAnyH_take (i := 11) (v := ?_) rfl (by kernel_rfl) (by kernel_rfl) (by kernel_rfl) (fun _ _ _ h => h) (Or.inl ⟨by kernel_rfl, ?_⟩) (by assumption) ?_
  rotate_left
  · rintro W ⟨⟨q0, q1, q2, q3, q4, q5, q6⟩, hqB⟩
    try dsimp only at q0 q1 q2 q3 q4 q5 q6
    go_simp
    try with_reducible rfl
  try simp only [Act.put, List.setIfInBounds_toArray, List.set_cons_zero, List.set_cons_succ]
  refine wpAnyH_take (i := 12) (v := ?_) rfl (by kernel_rfl) (by kernel_rfl) (by kernel_rfl) (fun _ _ _ h => h) (Or.inl ⟨by kernel_rfl, ?_⟩) (by assumption) ?_
  rotate_left
  · rintro W ⟨⟨q0, q1, q2, q3, q4, q5, q6⟩, hqB⟩
    try dsimp only at q0 q1 q2 q3 q4 q5 q6
    go_simp
    try with_reducible rfl
  try simp only [Act.put, List.setIfInBounds_toArray, List.set_cons_zero, List.set_cons_succ]
  refine wpAnyH_take (i := 13) (v := ?_) rfl (by kernel_rfl) (by kernel_rfl) (by kernel_rfl) (fun _ _ _ h => h) (Or.inl ⟨by kernel_rfl, ?_⟩) (by assumption) ?_
  rotate_left
  · rintro W ⟨⟨q0, q1, q2, q3, q4, q5, q6⟩, hqB⟩
    try dsimp only at q0 q1 q2 q3 q4 q5 q6
    go_simp
    try with_reducible rfl
  try simp only [Act.put, List.setIfInBounds_toArray, List.set_cons_zero, List.set_cons_succ]
  refine wpAnyH_take (i := 14) (v := ?_) rfl (by kernel_rfl) (by kernel_rfl) (by kernel_rfl) (fun _ _ _ h => h) (Or.inl ⟨by kernel_rfl, ?_⟩) (by assumption) ?_
  rotate_left
  · rintro W ⟨⟨q0, q1, q2, q3, q4, q5, q6⟩, hqB⟩
    try dsimp only at q0 q1 q2 q3 q4 q5 q6
    go_simp
    try with_reducible rfl
  try simp only [Act.put, List.setIfInBounds_toArray, List.set_cons_zero, List.set_cons_succ]
  refine wpAnyH_ready (rs := [15]) (by kernel_rfl) (by simp) ?_
  refine AllReadyH.cons (o := { dst := some 26, op := .call { callee := .value (.func 15), args := #[.tmp 25], argTypes := #[25] }, type := 29, pos := "ref.go:205", after := #[{ on := 14, ground := .data }, { on := 13, ground := .chain }, { on := 13, ground := .guard }], guard := some (13, false) }) rfl (fun K hK => ?_) AllReadyH.nil
  go_simp
  refine ((unhide HC1) _ hHeld.2).mono ?_; rintro e w4 ⟨rfl, hb4⟩
  have HS4 := hide (keep7 hHeld hb4)
  clear hHeld hb4
  refine hK.out _ _ ?_ (fun hHeld => ?_)
  · exact unhide HS4
  clear hK K
  try simp only [Act.put, List.setIfInBounds_toArray, List.set_cons_zero, List.set_cons_succ]
  refine wpAnyH_take (i := 16) (v := ?_) rfl (by kernel_rfl) (by kernel_rfl) (by kernel_rfl) (fun _ _ _ h => h) (Or.inl ⟨by kernel_rfl, ?_⟩) (by assumption) ?_
  rotate_left
  · rintro W ⟨⟨q0, q1, q2, q3, q4, q5, q6⟩, hqB⟩
    try dsimp only at q0 q1 q2 q3 q4 q5 q6
    go_simp
    try with_reducible rfl
  try simp only [Act.put, List.setIfInBounds_toArray, List.set_cons_zero, List.set_cons_succ]
  refine wpAnyH_take (i := 17) (v := ?_) rfl (by kernel_rfl) (by kernel_rfl) (by kernel_rfl) (fun _ _ _ h => h) (Or.inl ⟨by kernel_rfl, ?_⟩) (by assumption) ?_
  rotate_left
  · rintro W ⟨⟨q0, q1, q2, q3, q4, q5, q6⟩, hqB⟩
    try dsimp only at q0 q1 q2 q3 q4 q5 q6
    go_simp
    try with_reducible rfl
  try simp only [Act.put, List.setIfInBounds_toArray, List.set_cons_zero, List.set_cons_succ]
  refine wpAnyH_take (i := 18) (v := ?_) rfl (by kernel_rfl) (by kernel_rfl) (by kernel_rfl) (fun _ _ _ h => h) (Or.inl ⟨by kernel_rfl, ?_⟩) (by assumption) ?_
  rotate_left
  · rintro W ⟨⟨q0, q1, q2, q3, q4, q5, q6⟩, hqB⟩
    try dsimp only at q0 q1 q2 q3 q4 q5 q6
    go_simp
    try with_reducible rfl
  try simp only [Act.put, List.setIfInBounds_toArray, List.set_cons_zero, List.set_cons_succ]
  refine wpAnyH_take (i := 19) (v := ?_) rfl (by kernel_rfl) (by kernel_rfl) (by kernel_rfl) (fun _ _ _ h => h) (Or.inl ⟨by kernel_rfl, ?_⟩) (by assumption) ?_
  rotate_left
  · rintro W ⟨⟨q0, q1, q2, q3, q4, q5, q6⟩, hqB⟩
    try dsimp only at q0 q1 q2 q3 q4 q5 q6
    go_simp
    try with_reducible rfl
  try simp only [Act.put, List.setIfInBounds_toArray, List.set_cons_zero, List.set_cons_succ]
  refine wpAnyH_take (i := 22) (v := ?_) rfl (by kernel_rfl) (by kernel_rfl) (by kernel_rfl) (fun _ _ _ h => h) (Or.inl ⟨by kernel_rfl, ?_⟩) (by assumption) ?_
  rotate_left
  · rintro W ⟨⟨q0, q1, q2, q3, q4, q5, q6⟩, hqB⟩
    try dsimp only at q0 q1 q2 q3 q4 q5 q6
    go_simp
    try with_reducible rfl
  try simp only [Act.put, List.setIfInBounds_toArray, List.set_cons_zero, List.set_cons_succ]
  refine wpAnyH_take (i := 23) (v := ?_) rfl (by kernel_rfl) (by kernel_rfl) (by kernel_rfl) (fun _ _ _ h => h) (Or.inl ⟨by kernel_rfl, ?_⟩) (by assumption) ?_
  rotate_left
  · rintro W ⟨⟨q0, q1, q2, q3, q4, q5, q6⟩, hqB⟩
    try dsimp only at q0 q1 q2 q3 q4 q5 q6
    have hcv := (unhide HCV) W hqB
    go_simp
    try with_reducible rfl
  try simp only [Act.put, List.setIfInBounds_toArray, List.set_cons_zero, List.set_cons_succ]
  refine wpAnyH_ready (rs := [20]) (by kernel_rfl) (by simp) ?_
  refine AllReadyH.cons (o := { dst := some 31, op := .call { callee := .value (.func 27), args := #[.tmp 30], argTypes := #[25] }, type := 28, pos := "ref.go:205", after := #[{ on := 19, ground := .data }, { on := 18, ground := .chain }, { on := 18, ground := .guard }], guard := some (18, false) }) rfl (fun K hK => ?_) AllReadyH.nil
  go_simp
  refine ((unhide HE1) _ hHeld.2).mono ?_; rintro e w5 ⟨v5, rfl, hown5, hb5⟩
  have HS5 := hide (keep7 hHeld hb5)
  have hcv5 := conv_own w5 _ v5 _ hown5
  clear hHeld hb5 hown5
  refine hK.out _ _ ?_ (fun hHeld => ?_)
  · exact unhide HS5
  clear hK K
  try simp only [Act.put, List.setIfInBounds_toArray, List.set_cons_zero, List.set_cons_succ]
  refine wpAnyH_ready (rs := [21]) (by kernel_rfl) (by simp) ?_
  refine AllReadyH.cons (o := { dst := some 32, op := .convert 28 9 (.tmp 31), type := 9, pos := "ref.go:205", after := #[{ on := 20, ground := .data }, { on := 18, ground := .guard }], guard := some (18, false) }) rfl (fun K hK => ?_) AllReadyH.nil
  go_simp
  refine hK.out _ _ ?_ (fun hHeld => ?_)
  · exact unhide HS5
  clear hK K
  try simp only [Act.put, List.setIfInBounds_toArray, List.set_cons_zero, List.set_cons_succ]
  by_cases heq : V.enc = l
  · have hsn : (!V.enc == l) = false := by rw [heq]; simp
    have hdf : decF l = some V := by rw [← heq]; exact decF_enc (unhide HCK) (unhide HVN).at.bd
    have HDF := hide hdf
    clear hdf heq
    refine wpAnyH_take (i := 24) (v := ?_) rfl (by kernel_rfl) (by kernel_rfl) (by kernel_rfl) (fun _ _ _ h => h) (Or.inl ⟨by kernel_rfl, ?_⟩) (by assumption) ?_
    rotate_left
    · rintro W ⟨⟨q0, q1, q2, q3, q4, q5, q6⟩, hqB⟩
      try dsimp only at q0 q1 q2 q3 q4 q5 q6
      go_simp
      try with_reducible rfl
    try simp only [Act.put, List.setIfInBounds_toArray, List.set_cons_zero, List.set_cons_succ]
    refine wpAnyH_take (i := 25) (v := ?_) rfl (by kernel_rfl) (by kernel_rfl) (by kernel_rfl) (fun _ _ _ h => h) (Or.inl ⟨by kernel_rfl, ?_⟩) (by assumption) ?_
    rotate_left
    · rintro W ⟨⟨q0, q1, q2, q3, q4, q5, q6⟩, hqB⟩
      try dsimp only at q0 q1 q2 q3 q4 q5 q6
      go_simp
      try with_reducible rfl
    try simp only [Act.put, List.setIfInBounds_toArray, List.set_cons_zero, List.set_cons_succ]
    refine wpAnyH_done (by kernel_rfl) ?_ _
    have HX3 := hide (((unhide HS5).2.block w.heap.size (lt_of_block (unhide HXz))).trans (unhide HXz))
    have HX4 := hide (((unhide HS5).2.block w2.heap.size (lt_of_block (unhide HXv))).trans (unhide HXv))
    have f0 := (boxAt (unhide HX3) 0).1; have f1 := (boxAt (unhide HX3) 1).1; have f2 := (boxAt (unhide HX3) 2).1; have f3 := (boxAt (unhide HX3) 3).1; have f4 := (boxAt (unhide HX3) 4).1
    have g0 := (boxAt (unhide HX3) 0).2; have g1 := (boxAt (unhide HX3) 1).2; have g2 := (boxAt (unhide HX3) 2).2; have g3 := (boxAt (unhide HX3) 3).2; have g4 := (boxAt (unhide HX3) 4).2
    have k0 := (boxAt (unhide HX4) 0).1; have k1 := (boxAt (unhide HX4) 1).1; have k2 := (boxAt (unhide HX4) 2).1; have k3 := (boxAt (unhide HX4) 3).1; have k4 := (boxAt (unhide HX4) 4).1
    simp at f0 f1 f2 f3 f4 k0 k1 k2 k3 k4
    clear hHeld
    go_wp2_with fail
    refine bodyPost_ret (v := .tuple #[vaV k n s B m c1 B' m' c1', .int .i64 0]) (by simp [results, Tryd.results17, go_sem, f0, f1, f2, f3, f4]) rfl ⟨?_, (thenB (unhide HBw) (unhide HS5).2).trans (below5 (Nat.le_refl _) _ _ _ _ _)⟩
    rw [unhide HDF]
    refine ⟨_, rfl, ?_⟩
    have hB25 := thenB (unhide HB23) (unhide HS5).2
    refine (unhide HVN).keep (fun b hb => ⟨by omega, ?_⟩) fun b hb => ?_
    · rw [set5_size]; have := hB25.size; omega
    · rw [set5_block (by omega)]; exact hB25.block b hb.2
  · have hsn : (!V.enc == l) = true := by simpa using heq
    have HN := hide ((unhide HND) (fun V2 _ _ he h => by
      rw [unhide HVR] at h
      injection h with h
      injection h with h _
      rw [← h] at he
      exact heq he.symm))
    clear heq
    refine wpAnyH_take (i := 24) (v := ?_) rfl (by kernel_rfl) (by kernel_rfl) (by kernel_rfl) (fun _ _ _ h => h) (Or.inl ⟨by kernel_rfl, ?_⟩) (by assumption) ?_
    rotate_left
    · rintro W ⟨⟨q0, q1, q2, q3, q4, q5, q6⟩, hqB⟩
      try dsimp only at q0 q1 q2 q3 q4 q5 q6
      go_simp
      try with_reducible rfl
    try simp only [Act.put, List.setIfInBounds_toArray, List.set_cons_zero, List.set_cons_succ]
    refine wpAnyH_take (i := 25) (v := ?_) rfl (by kernel_rfl) (by kernel_rfl) (by kernel_rfl) (fun _ _ _ h => h) (Or.inl ⟨by kernel_rfl, ?_⟩) (by assumption) ?_
    rotate_left
    · rintro W ⟨⟨q0, q1, q2, q3, q4, q5, q6⟩, hqB⟩
      try dsimp only at q0 q1 q2 q3 q4 q5 q6
      go_simp
      try with_reducible rfl
    try simp only [Act.put, List.setIfInBounds_toArray, List.set_cons_zero, List.set_cons_succ]
    refine wpAnyH_done (by kernel_rfl) ?_ _
    have HX3 := hide (((unhide HS5).2.block w.heap.size (lt_of_block (unhide HXz))).trans (unhide HXz))
    have f0 := (boxAt (unhide HX3) 0).1; have f1 := (boxAt (unhide HX3) 1).1; have f2 := (boxAt (unhide HX3) 2).1; have f3 := (boxAt (unhide HX3) 3).1; have f4 := (boxAt (unhide HX3) 4).1
    have g0 := (boxAt (unhide HX3) 0).2; have g1 := (boxAt (unhide HX3) 1).2; have g2 := (boxAt (unhide HX3) 2).2; have g3 := (boxAt (unhide HX3) 3).2; have g4 := (boxAt (unhide HX3) 4).2
    simp at f0 f1 f2 f3 f4
    clear hHeld
    go_wp2_with fail
    refine bodyPost_ret (v := .tuple #[zeroV, .int .i64 20]) (by simp [results, Tryd.results17, go_sem, f0, f1, f2, f3, f4]) rfl ⟨?_, (thenB (unhide HBw) (unhide HS5).2).trans (below5 (Nat.le_refl _) _ _ _ _ _)⟩
    rw [unhide HN]
end Go.Proofs.YtclpbjdnollfcaaDoor
