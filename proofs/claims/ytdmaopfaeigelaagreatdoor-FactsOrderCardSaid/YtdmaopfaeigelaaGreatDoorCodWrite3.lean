/- Contracts over the codec's program, each for every well-formed value: write, Encode. -/
import Derived.Test.YtdmaopfaeigelaaGreatDoorCodWrite2
import Derived.Deep.RegionHeld3
import Derived.Laws.EntriesVeiled
namespace Go.Proofs.YtdmaopfaeigelaaGreatDoor
set_option linter.unusedSimpArgs false
set_option linter.unusedVariables false
open Go.RowKit

theorem still_tail {P : Program} {id : Nat} {Q : Exit → Act → World → Prop} {a : Act} {w : World} {l : List Oper} (n : Nat) (hm : P.follows .mixedOrders = true) (hB : Region.lexTailB .any l.toArray n = true)
    (h : wpStill P l.toArray w.drew (fun a' => wpList P l.toArray Q (l.drop n) a' w.drew) (l.take n) a) : (Code.region id l.toArray true).wp P Q a w := wp_region_still_tail n hm hB h

set_option maxRecDepth 100000 in
set_option maxHeartbeats 2000000 in
theorem w_call (f : Nat) (k n : Int) (s : ByteArray) (A : Option Addr) (l c : Nat) (A' : Option Addr) (l' c' : Nat) (bv : Value) (w : World) (B m : Nat) (xs : List Value) (bs : List UInt8) (hB : B ≤ w.heap.size)
    (hf : (k = 1 ∧ f = 143) ∨ (k = 2 ∧ f = 144) ∨ (k = 3 ∧ f = 145) ∨ (k = 4 ∧ f = 146))
    (HC : Hid (∀ W, Below w.heap.size w W → Calls Tryz.prog f #[bv, vaV k n s A l c A' l' c'] W (Wrote B W m xs bs))) :
    Calls Tryz.prog 78 #[bv, vaV k n s A l c A' l' c'] w (Wrote B w m xs bs) := by
  rcases hf with ⟨rfl, rfl⟩ | ⟨rfl, rfl⟩ | ⟨rfl, rfl⟩ | ⟨rfl, rfl⟩
  · go_enter Tryz.func78, Tryz.ntmps78
    go_wp2_with fail
    refine still_tail 6 (by kernel_rfl) (by kernel_rfl) ?_
    simp only [List.take_succ_cons, List.take_zero, List.drop_succ_cons, List.drop_zero]
    repeat still_step
    refine wpStill_nil ?_
    go_wp2_with fail
    refine (unhide HC _ (belowDrewN 1 (((Below.refl _ _).alloc (Nat.le_refl _) _).alloc (by simp) _))).mono ?_; rintro e w1 ⟨v1, rfl, hown1, hf1⟩
    have HO1 := hide hown1; have HF1 := hide hf1; clear hown1 hf1
    go_wp2_with fail
    go_ret
    exact ⟨_, rfl, unhide HO1, ((((Fr.refl _ _).alloc hB _).alloc (by simp; omega) _).below (by simp; omega) (belowDrewN 1 (Below.refl _ _))).trans (unhide HF1)⟩
  · go_enter Tryz.func78, Tryz.ntmps78
    go_wp2_with fail
    refine still_tail 6 (by kernel_rfl) (by kernel_rfl) ?_
    simp only [List.take_succ_cons, List.take_zero, List.drop_succ_cons, List.drop_zero]
    repeat still_step
    refine wpStill_nil ?_
    go_wp2_with fail
    refine (unhide HC _ (belowDrewN 1 (((Below.refl _ _).alloc (Nat.le_refl _) _).alloc (by simp) _))).mono ?_; rintro e w1 ⟨v1, rfl, hown1, hf1⟩
    have HO1 := hide hown1; have HF1 := hide hf1; clear hown1 hf1
    go_wp2_with fail
    go_ret
    exact ⟨_, rfl, unhide HO1, ((((Fr.refl _ _).alloc hB _).alloc (by simp; omega) _).below (by simp; omega) (belowDrewN 1 (Below.refl _ _))).trans (unhide HF1)⟩
  · go_enter Tryz.func78, Tryz.ntmps78
    go_wp2_with fail
    refine still_tail 6 (by kernel_rfl) (by kernel_rfl) ?_
    simp only [List.take_succ_cons, List.take_zero, List.drop_succ_cons, List.drop_zero]
    repeat still_step
    refine wpStill_nil ?_
    go_wp2_with fail
    refine (unhide HC _ (belowDrewN 1 (((Below.refl _ _).alloc (Nat.le_refl _) _).alloc (by simp) _))).mono ?_; rintro e w1 ⟨v1, rfl, hown1, hf1⟩
    have HO1 := hide hown1; have HF1 := hide hf1; clear hown1 hf1
    go_wp2_with fail
    go_ret
    exact ⟨_, rfl, unhide HO1, ((((Fr.refl _ _).alloc hB _).alloc (by simp; omega) _).below (by simp; omega) (belowDrewN 1 (Below.refl _ _))).trans (unhide HF1)⟩
  · go_enter Tryz.func78, Tryz.ntmps78
    go_wp2_with fail
    refine still_tail 6 (by kernel_rfl) (by kernel_rfl) ?_
    simp only [List.take_succ_cons, List.take_zero, List.drop_succ_cons, List.drop_zero]
    repeat still_step
    refine wpStill_nil ?_
    go_wp2_with fail
    refine (unhide HC _ (belowDrewN 1 (((Below.refl _ _).alloc (Nat.le_refl _) _).alloc (by simp) _))).mono ?_; rintro e w1 ⟨v1, rfl, hown1, hf1⟩
    have HO1 := hide hown1; have HF1 := hide hf1; clear hown1 hf1
    go_wp2_with fail
    go_ret
    exact ⟨_, rfl, unhide HO1, ((((Fr.refl _ _).alloc hB _).alloc (by simp; omega) _).below (by simp; omega) (belowDrewN 1 (Below.refl _ _))).trans (unhide HF1)⟩

theorem ownsOn {w W : World} {B n : Nat} {e : TypeId} {sz : Nat} {v : Value} {xs : List Value} (h : w.ownsRow B e sz v n xs) (hb : Below w.heap.size w W) : W.ownsRow B e sz v n xs := by
  refine ⟨h.1, ?_⟩
  rcases h.2 with h2 | ⟨g, cap, cur, hv, hB, hc, r⟩
  · exact .inl h2
  · exact .inr ⟨g, cap, cur, hv, hB, by rw [hb.block g (Array.getElem?_eq_some_iff.1 hc).1]; exact hc, r⟩

theorem enc_mem {k n : Int} {s : ByteArray} {l : List Va} {ks : List ByteArray} (h : Va.wf (.mk k n s l ks) = true) :
    (k = 1 ∨ k = 2 ∨ k = 3 ∨ k = 4) ∧ wfAll l = true ∧ (k = 4 → ks.length = l.length) := by
  simp only [Va.wf, Bool.and_eq_true] at h
  obtain ⟨hf, hw⟩ := h
  unfold fitsB at hf
  by_cases h1 : k = 1
  · exact ⟨.inl h1, hw, fun h => by omega⟩
  by_cases h2 : k = 2
  · exact ⟨.inr (.inl h2), hw, fun h => by omega⟩
  by_cases h3 : k = 3
  · exact ⟨.inr (.inr (.inl h3)), hw, fun h => by omega⟩
  by_cases h4 : k = 4
  · rw [if_neg h1, if_neg h2, if_neg h3, if_pos h4] at hf
    simp only [Bool.and_eq_true, decide_eq_true_eq] at hf
    exact ⟨.inr (.inr (.inr h4)), hw, fun _ => hf.1.2⟩
  · rw [if_neg h1, if_neg h2, if_neg h3, if_neg h4] at hf
    cases hf

theorem write_all (N : Nat) : WrIs N := by
  induction N with
  | zero => intro V hV; have := sz_pos V; omega
  | succ N ih =>
    intro V hV hwf w0 w v bv nn xs hv hb hT hown hlim
    obtain ⟨k, n, s, l, ks, A, c, A', c', rfl, rfl, hk, hn, hs, hl1, hl2, _, _, hE, hS⟩ := hv.open
    obtain ⟨hkk, hwl, hkl⟩ := enc_mem hwf
    have hN : szAll l ≤ N := by simp only [Va.sz] at hV; omega
    rcases hkk with rfl | rfl | rfl | rfl
    · rw [show Va.enc (.mk 1 n s l ks) = 105 :: Lib.itoa n ++ [101] by simp [Va.enc]] at hlim ⊢
      exact w_call _ _ _ _ _ _ _ _ _ _ _ _ _ _ _ _ hb.size (.inl ⟨rfl, rfl⟩) fun W hW => int_any _ _ _ n s A _ c A' _ c' bv xs W hn (ownsOn hown hW) (Nat.le_trans hb.size hW.size) (by omega) (hT.along (hW.mono hb.size))
    · rw [show Va.enc (.mk 2 n s l ks) = encT s by simp [Va.enc]] at hlim ⊢
      have hss : s.size ≤ (encT s).length := by simp [encT, bytes_len]; omega
      exact w_call _ _ _ _ _ _ _ _ _ _ _ _ _ _ _ _ hb.size (.inr (.inl ⟨rfl, rfl⟩)) fun W hW => wtext_any _ _ _ n s A _ c A' _ c' bv xs W (by omega) (ownsOn hown hW) (Nat.le_trans hb.size hW.size) (by omega) (hT.along (hW.mono hb.size))
    · rw [show Va.enc (.mk 3 n s l ks) = 108 :: encL l ++ [101] by simp [Va.enc]] at hlim ⊢
      simp only [List.length_append, List.length_cons, List.length_nil] at hlim
      refine w_call _ _ _ _ _ _ _ _ _ _ _ _ _ _ _ _ hb.size (.inr (.inr (.inl ⟨rfl, rfl⟩))) fun W hW => ?_
      by_cases h0 : 0 < l.length
      · obtain ⟨b, o, rfl, hbw, hr⟩ := hE.row h0
        exact wlist_rows N ih _ n s l b o _ c A' _ c' w0 W bv nn xs hN hl1 h0 rfl hwl hbw hr (hb.trans (hW.mono hb.size)) (hT.along (hW.mono hb.size)) (ownsOn hown hW) (by omega)
      · have e0 : l = [] := List.length_eq_zero_iff.1 (by omega)
        subst e0
        exact wlist_zero _ n s A c A' _ c' _ W bv nn xs (Nat.le_trans hb.size hW.size) (ownsOn hown hW) (by omega)
    · rw [show Va.enc (.mk 4 n s l ks) = 100 :: encD l ks ++ [101] by simp [Va.enc]] at hlim ⊢
      simp only [List.length_append, List.length_cons, List.length_nil] at hlim
      have hkl := hkl rfl
      refine w_call _ _ _ _ _ _ _ _ _ _ _ _ _ _ _ _ hb.size (.inr (.inr (.inr ⟨rfl, rfl⟩))) fun W hW => ?_
      by_cases h0 : 0 < l.length
      · obtain ⟨b, o, rfl, hbw, hr⟩ := hE.row h0
        obtain ⟨b', o', rfl, hbw', hr'⟩ := hS.row (by omega)
        rw [hkl]
        exact wdict_rows N ih _ n s l ks b o _ c b' o' c' w0 W bv nn xs hN hl1 h0 rfl hkl hwl hbw hbw' hr hr' (hb.trans (hW.mono hb.size)) (hT.along (hW.mono hb.size)) (ownsOn hown hW) (by omega)
      · have e0 : l = [] := List.length_eq_zero_iff.1 (by omega)
        subst e0
        rw [hkl]
        exact wdict_zero _ n s A c A' _ c' _ W bv nn xs (Nat.le_trans hb.size hW.size) (ownsOn hown hW) (by omega)
theorem write_any (V : Va) (hwf : V.wf = true) (w0 w : World) (v bv : Value) (n : Nat) (xs : List Value) (hv : VAt w0 V v) (hb : Below w0.heap.size w0 w) (hT : Pow w0.heap.size w)
    (hown : w.ownsRow w0.heap.size 5 1 bv n xs) (hlim : n + V.enc.length ≤ 1000000000) : Calls Tryz.prog 78 #[bv, v] w (Wrote w0.heap.size w n xs V.enc) :=
  write_all V.sz V (Nat.le_refl _) hwf w0 w v bv n xs hv hb hT hown hlim

/-- what Encode hands back -/
def Encoded (w : World) (V : Va) (e : Ending) (w' : World) : Prop :=
  ∃ bv, e = .returned (.tuple #[bv, .int .i64 (chkE V)]) ∧ w'.ownsRow w.heap.size 5 1 bv (if chkE V = 0 then V.enc.length else 0) (if chkE V = 0 then Lib.byteCells V.enc else []) ∧ Below w.heap.size w w'

set_option maxHeartbeats 1000000 in
theorem encode_any (V : Va) (hn : V.nest ≤ 1000) (hlim : V.enc.length ≤ 1000000000) (v : Value) (w : World) (h : VAt w V v) (hT : Pow w.heap.size w) :
    Calls Tryz.prog 39 #[v] w (Encoded w V) := by
  have hc := fun (W : World) (hW : Below w.heap.size w W) => check_any V hn v W (h.later hW)
  have hw := fun (hwf : V.wf = true) (W : World) (hW : Below w.heap.size w W) => write_any V hwf w W v (.slice none 0 0) 0 [] h hW (hT.along hW) (World.ownsRow_nil _ _ _ _) (by omega)
  have hV := h
  obtain ⟨k, n, s, l, ks, A, c, A', c', _, rfl, _⟩ := h.open
  by_cases hE : chkE V = 0
  · have hwf : V.wf = true := by
      unfold chkE at hE
      cases hq : V.wf
      · simp [hq] at hE
      · rfl
    have hW := hw hwf
    rw [hE] at hc
    have HC := hide hc; have HW := hide hW; have HE := hide hE
    clear hc hw hW hE hwf hV hT h
    go_enter Tryz.func39, Tryz.ntmps39
    go_wp2_with fail
    refine ((unhide HC) _ (by go_grown)).mono ?_; rintro e w1 ⟨rfl, hb1⟩; obtain ⟨hcc, hcf⟩ := oldCells hb1; have hz : w.heap.size < w1.heap.size := by have := hb1.size; simp at this; omega
    have HB := hide (advB (Below.refl w.heap.size w) hb1)
    clear hb1
    go_wp2_with fail
    refine ((unhide HW) _ (unhide HB)).mono ?_; rintro e w2 ⟨v2, rfl, hown2, hf2⟩
    have HO := hide hown2; have HB2 := hide ((unhide HB).trans hf2.1); clear hown2 hf2
    go_wp2_with fail
    go_ret2
    refine ⟨v2, by rw [unhide HE]; rfl, ?_, unhide HB2⟩
    rw [if_pos (unhide HE), if_pos (unhide HE)]
    exact ownCast (unhide HO) (by simp) (by simp)
  · have hne : (chkE V != 0) = true := by simpa using hE
    generalize hq : chkE V = q at *
    have HC := hide hc; have HE := hide hE; have HQ := hide hq
    clear hc hw hV hT h hE hq
    go_enter Tryz.func39, Tryz.ntmps39
    go_wp2_with fail
    refine ((unhide HC) _ (by go_grown)).mono ?_; rintro e w1 ⟨rfl, hb1⟩
    have HB := hide (advB (Below.refl w.heap.size w) hb1)
    clear hb1
    go_wp2_with fail
    go_ret2
    refine ⟨.slice none 0 0, by rw [unhide HQ]; rfl, ?_, unhide HB⟩
    rw [unhide HQ, if_neg (unhide HE), if_neg (unhide HE)]
    exact World.ownsRow_nil _ _ _ _
end Go.Proofs.YtdmaopfaeigelaaGreatDoor
