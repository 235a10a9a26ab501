/- A contract over the codec's program: the reference's Decode refuses, given what Value answers, what is no encoding (the other case is not written). (Written by wip/tools/gen_rdec.py.) -/
import Derived.Test.YtclpbjdnollfcaaDoorCodRLen
import Derived.Test.YtclpbjdnollfcaaDoorCodRDeep
import Derived.Test.YtclpbjdnollfcaaDoorCodGlue
import Derived.Deep.QuietTactic
import Derived.BigQuiet
namespace Go.Proofs.YtclpbjdnollfcaaDoor
set_option linter.unusedSimpArgs false
set_option linter.unusedVariables false
open Go.RowKit

/-- Value, d levels above the deepest that may be -/
abbrev ValRIs (d : Nat) : Prop := ∀ (w : World) (rb : Nat) (A : Option Addr) (c : Nat) (l : List UInt8) (p : Nat), RR w rb A c l p false → p ≤ l.length → lenOk l c → ∀ x : Int, x = 16 - (d : Int) →
  Calls Tryd.prog 34 #[.pointer (some ⟨rb, 0, none⟩), .int .i64 x] w (RVal rb A c l d (valR l.length d (l.drop p)) w)
theorem decF_none {l : List UInt8} (hl : l.length ≤ 2000) (hbd : ∀ V, decF l = some V → V.bd) (hnot : ∀ V : Va, chkE V = 0 → V.bd → l = V.enc → valR l.length 16 l = some (V, []) → False) : decF l = none := by
  cases h : decF l with
  | none => rfl
  | some V =>
    obtain ⟨h1, h2⟩ := decF_some h
    have h3 : V.bd := hbd V h
    have := forwR hl (chk_split h1).1 h3 (chk_split h1).2 (by rw [h2]; exact Nat.le_refl _) []
    rw [List.append_nil, ← h2] at this
    exact (hnot V h1 h3 h2 this).elim
theorem rr_new {w : World} {A : Option Addr} {c : Nat} {l : List UInt8} (o : Obj) (hB : BAt w (.slice A l.length c) l) (hl : l.length ≤ 2000) :
    RR ((w.alloc o).alloc (.cells #[.slice A l.length c, .int .i64 0, .bool false] 55)) (w.heap.size + 1) A c l 0 false ∧ lenOk l c := by
  obtain ⟨A', c', e, hA, h1, h2, h3⟩ := hB
  injection e with e1 _ e3
  subst e1 e3
  refine ⟨⟨heap_two w o _, ?_, hl⟩, h1, h2⟩
  intro i b hi
  obtain ⟨g, o', rfl, hx⟩ := h3 i b hi
  have hlt := World.block_lt_of_cell? w _ hx
  refine ⟨g, o', rfl, by simp at hlt; omega, ?_⟩
  exact ((((Below.refl w.heap.size w).alloc (Nat.le_refl _) o).alloc (by simp) _).cell hlt).trans hx

theorem keepR1 {w w' : World} {a : Addr} {v : Value} (h : w.cell? a = some v) (hb : Below w.heap.size w w') : w'.cell? a = some v := (hb.cell (World.block_lt_of_cell? w _ h)).trans h
theorem keep7 {W0 W W' : World} {a0 : Addr} {v0 : Value} {a1 : Addr} {v1 : Value} {a2 : Addr} {v2 : Value} {a3 : Addr} {v3 : Value} {a4 : Addr} {v4 : Value} {a5 : Addr} {v5 : Value} {a6 : Addr} {v6 : Value}
    (h : (W.cell? a0 = some v0 ∧ W.cell? a1 = some v1 ∧ W.cell? a2 = some v2 ∧ W.cell? a3 = some v3 ∧ W.cell? a4 = some v4 ∧ W.cell? a5 = some v5 ∧ W.cell? a6 = some v6) ∧ Below W0.heap.size W0 W) (hb : Below W.heap.size W W') : (W'.cell? a0 = some v0 ∧ W'.cell? a1 = some v1 ∧ W'.cell? a2 = some v2 ∧ W'.cell? a3 = some v3 ∧ W'.cell? a4 = some v4 ∧ W'.cell? a5 = some v5 ∧ W'.cell? a6 = some v6) ∧ Below W0.heap.size W0 W' := by
  obtain ⟨⟨h0, h1, h2, h3, h4, h5, h6⟩, hB⟩ := h
  exact ⟨⟨keepR1 h0 hb, keepR1 h1 hb, keepR1 h2 hb, keepR1 h3 hb, keepR1 h4 hb, keepR1 h5 hb, keepR1 h6 hb⟩, thenB hB hb⟩

set_option maxRecDepth 100000 in
set_option maxHeartbeats 4000000 in
theorem rdecode_refuse (hv : Hid (ValRIs 16)) (A : Option Addr) (c : Nat) (l : List UInt8) (w : World) (hB : BAt w (.slice A l.length c) l) (hl : l.length ≤ 2000) (hbd : ∀ V, decF l = some V → V.bd) (hno : ∀ V, valR l.length 16 l = some (V, []) → chkE V = 0 → False) : Calls Tryd.prog 17 #[.slice A l.length c] w (Decoded w (decF l)) := by
  have HR := hide (rr_new (.cells zeroCells 25) hB hl)
  have HBB := hide hB
  have HND := hide (fun hnot => decF_none hl hbd hnot)
  clear hB hbd
  have hgood := fun V q h => valR_good hl 16 l V q h
  generalize hr : valR l.length 16 l = r
  have HRV := hide hr
  have HV : Hid (∀ W, RR W (w.heap.size + 1) A c l 0 false → Calls Tryd.prog 34 #[.pointer (some ⟨w.heap.size + 1, 0, none⟩), .int .i64 0] W (RVal (w.heap.size + 1) A c l 16 r W)) := fun W hW => by
    have := (unhide hv) W (w.heap.size + 1) A c l 0 hW (Nat.zero_le _) (unhide HR).2 0 (by decide)
    rw [List.drop_zero, hr] at this
    exact this
  have HG := hide hgood
  have HNO := hide hno
  rw [hr] at HNO
  clear hr hgood hv hno
  go_enter Tryd.func17, Tryd.ntmps17
  go_wp2_with fail
  refine ((unhide HV) _ (unhide HR).1).mono ?_
  rintro e1 w2 ⟨hm2, k, n, s, B, m, c1, B', m', c1', p', rfl, hcase⟩
  have hh2 : w2.heap[w.heap.size]? = some (.cells zeroCells 25 (0, 0)) := (hm2.block w.heap.size (by simp; omega) (by simp)).trans ((heap_alloc_old _ _ (by simp)).trans (heap_alloc_new _ _))
  have HB2 : Hid (Below w.heap.size w w2) := (((Below.refl w.heap.size w).alloc (Nat.le_refl _) _).alloc (by simp) _).grown hm2 (by simp; omega) (fun k hk => by injection hk with hk; omega)
  have hz2 : w.heap.size < w2.heap.size := lt_of_block hh2
  have f0 := (boxAt hh2 0).1; have f1 := (boxAt hh2 1).1; have f2 := (boxAt hh2 2).1; have f3 := (boxAt hh2 3).1; have f4 := (boxAt hh2 4).1
  have g0 := (boxAt hh2 0).2; have g1 := (boxAt hh2 1).2; have g2 := (boxAt hh2 2).2; have g3 := (boxAt hh2 3).2; have g4 := (boxAt hh2 4).2
  simp at f0 f1 f2 f3 f4
  have HC := hide hcase; have HM2 := hide hm2
  have HX2 := hide hh2
  clear hcase hh2 hm2 HV
  cases r with
  | none =>
    have hR := (unhide HC).2
    have hr1 := hR.c1; have hr2 := hR.c2
    have hrz := hR.lt
    have HN := hide ((unhide HND) (fun V _ _ _ h => by rw [unhide HRV] at h; cases h))
    clear hR HC HRV HND HG HR HBB
    go_wp2_with fail
    go_quiet (fail)
    have HX3 := hide (show ((w2.alloc (.cells #[.int .i64 k, .int .i64 n, .string s, .slice B m c1, .slice B' m' c1'] 25)).drewN nq).heap[w.heap.size]? = some (.cells zeroCells 25 (0, 0)) from (heap_alloc_old _ _ hz2).trans (unhide HX2))
    have HB3 := hide (belowDrewN nq ((unhide HB2).alloc (unhide HB2).size (.cells #[.int .i64 k, .int .i64 n, .string s, .slice B m c1, .slice B' m' c1'] 25)))
    clear f0 f1 f2 f3 f4 g0 g1 g2 g3 g4 hr1 hr2
    revert HX3 HB3
    generalize ((w2.alloc (.cells #[.int .i64 k, .int .i64 n, .string s, .slice B m c1, .slice B' m' c1'] 25)).drewN nq) = W3
    intro HX3 HB3
    have f0 := (boxAt (unhide HX3) 0).1; have f1 := (boxAt (unhide HX3) 1).1; have f2 := (boxAt (unhide HX3) 2).1; have f3 := (boxAt (unhide HX3) 3).1; have f4 := (boxAt (unhide HX3) 4).1
    have g0 := (boxAt (unhide HX3) 0).2; have g1 := (boxAt (unhide HX3) 1).2; have g2 := (boxAt (unhide HX3) 2).2; have g3 := (boxAt (unhide HX3) 3).2; have g4 := (boxAt (unhide HX3) 4).2
    simp at f0 f1 f2 f3 f4
    go_wp2_with fail
    refine bodyPost_ret (v := .tuple #[zeroV, .int .i64 20]) (by simp [results, Tryd.results17, go_sem, f0, f1, f2, f3, f4]) rfl ⟨?_, (unhide HB3).trans (below5 (Nat.le_refl _) _ _ _ _ _)⟩
    rw [unhide HN]
  | some q =>
    obtain ⟨V, t⟩ := q
    obtain ⟨hvn, hpl, hdt, hR⟩ := unhide HC
    have hr1 := hR.c1; have hr2 := hR.c2
    have hrz := hR.lt
    by_cases hpe : p' = l.length
    · subst hpe
      by_cases hck : chkE V = 0
      · have ht : t = [] := by rw [← hdt]; simp
        subst ht
        exact (unhide HNO V rfl hck).elim
      · have HN := hide ((unhide HND) (fun V2 hc2 _ _ h => by
          rw [unhide HRV] at h
          injection h with h
          injection h with h _
          rw [h] at hck
          exact hck hc2))
        have hgd := (unhide HG) V t (unhide HRV)
        have hvat := hvn.at
        have HC1 := hide (fun (W : World) (hW : Below (w2.alloc (.cells #[.int .i64 k, .int .i64 n, .string s, .slice B m c1, .slice B' m' c1'] 25)).heap.size (w2.alloc (.cells #[.int .i64 k, .int .i64 n, .string s, .slice B m c1, .slice B' m' c1'] 25)) W) => rcheck_any V (by omega) _ W (hvat.later (thenB ((Below.refl _ _).alloc (Nat.le_refl _) (.cells #[.int .i64 k, .int .i64 n, .string s, .slice B m c1, .slice B' m' c1'] 25)) hW)))
        have hckn : (chkE V != 0) = true := by simpa using hck
        generalize chkE V = ck at HC1 hckn
        have hR3 := hR.below ((Below.refl _ _).alloc (Nat.le_refl _) (.cells #[.int .i64 k, .int .i64 n, .string s, .slice B m c1, .slice B' m' c1'] 25))
        have HR3 := hide hR3
        have HXv := hide (heap_alloc_new w2 (.cells #[.int .i64 k, .int .i64 n, .string s, .slice B m c1, .slice B' m' c1'] 25))
        have HXz := hide ((heap_alloc_old w2 (.cells #[.int .i64 k, .int .i64 n, .string s, .slice B m c1, .slice B' m' c1'] 25) hz2).trans (unhide HX2))
        have HBw := hide ((unhide HB2).alloc (unhide HB2).size (.cells #[.int .i64 k, .int .i64 n, .string s, .slice B m c1, .slice B' m' c1'] 25))
        clear hR hR3 HC HRV HND HG HR HBB hvn hdt hgd hvat hck
        have hne : ((l.length : Int) != (l.length : Int)) = false := by simp
        go_wp2_with fail
        clear f0 f1 f2 f3 f4 g0 g1 g2 g3 g4 hr1 hr2 HX2 HB2 HM2
        revert HC1 HR3 HXv HXz HBw
        generalize (w2.alloc (.cells #[.int .i64 k, .int .i64 n, .string s, .slice B m c1, .slice B' m' c1'] 25)) = W3
        intro HC1 HR3 HXv HXz HBw
        have hTn : Nonempty (ClsR (fun W => Below W3.heap.size W3 W)) := ⟨⟨_, Below.refl _ _⟩⟩
        have hT5 : ∀ x : ClsR (fun W => Below W3.heap.size W3 W), x.w.cell? ⟨w.heap.size + 1, 1, none⟩ = some (.int .i64 (l.length : Int)) := fun x => ((unhide HR3).below x.h).c1
        have hT6 : ∀ x : ClsR (fun W => Below W3.heap.size W3 W), x.w.cell? ⟨w.heap.size + 1, 2, none⟩ = some (.bool false) := fun x => ((unhide HR3).below x.h).c2
        have hT0 : ∀ x : ClsR (fun W => Below W3.heap.size W3 W), x.w.cell? ⟨w2.heap.size, 0, none⟩ = some (.int .i64 k) := fun x => (x.h.cell (lt_of_block (unhide HXv))).trans (boxAt (unhide HXv) 0).1
        have hT1 : ∀ x : ClsR (fun W => Below W3.heap.size W3 W), x.w.cell? ⟨w2.heap.size, 1, none⟩ = some (.int .i64 n) := fun x => (x.h.cell (lt_of_block (unhide HXv))).trans (boxAt (unhide HXv) 1).1
        have hT2 : ∀ x : ClsR (fun W => Below W3.heap.size W3 W), x.w.cell? ⟨w2.heap.size, 2, none⟩ = some (.string s) := fun x => (x.h.cell (lt_of_block (unhide HXv))).trans (boxAt (unhide HXv) 2).1
        have hT3 : ∀ x : ClsR (fun W => Below W3.heap.size W3 W), x.w.cell? ⟨w2.heap.size, 3, none⟩ = some (.slice B m c1) := fun x => (x.h.cell (lt_of_block (unhide HXv))).trans (boxAt (unhide HXv) 3).1
        have hT4 : ∀ x : ClsR (fun W => Below W3.heap.size W3 W), x.w.cell? ⟨w2.heap.size, 4, none⟩ = some (.slice B' m' c1') := fun x => (x.h.cell (lt_of_block (unhide HXv))).trans (boxAt (unhide HXv) 4).1
        refine wp_region_quiet_R (C := fun W => ∃ x : ClsR (fun W => Below W3.heap.size W3 W), W = x.w) (by kernel_rfl) (by kernel_rfl) ⟨⟨_, belowDrewN 1 (Below.refl _ _)⟩, rfl⟩ ?_
        repeat (go_big_quiet_step (fail))
        go_big_quiet_step ((go_at_call 15; exact ((unhide HC1) _ (ClsR.h _)).mono fun e w'' ⟨he, hb⟩ => ⟨he, ⟨w'', thenB (ClsR.h _) hb⟩, rfl⟩))
        repeat (go_big_quiet_step (fail))
        refine wpQuiet_nil ?_
        rintro _ ⟨x, rfl⟩
        have HX3 := hide ((x.h.block w.heap.size (lt_of_block (unhide HXz))).trans (unhide HXz))
        have HB3 := hide (thenB (unhide HBw) x.h)
        have f0 := (boxAt (unhide HX3) 0).1; have f1 := (boxAt (unhide HX3) 1).1; have f2 := (boxAt (unhide HX3) 2).1; have f3 := (boxAt (unhide HX3) 3).1; have f4 := (boxAt (unhide HX3) 4).1
        have g0 := (boxAt (unhide HX3) 0).2; have g1 := (boxAt (unhide HX3) 1).2; have g2 := (boxAt (unhide HX3) 2).2; have g3 := (boxAt (unhide HX3) 3).2; have g4 := (boxAt (unhide HX3) 4).2
        simp at f0 f1 f2 f3 f4
        clear hT0 hT1 hT2 hT3 hT4 hT5 hT6
        go_wp2_with fail
        refine bodyPost_ret (v := .tuple #[zeroV, .int .i64 20]) (by simp [results, Tryd.results17, go_sem, f0, f1, f2, f3, f4]) rfl ⟨?_, (unhide HB3).trans (below5 (Nat.le_refl _) _ _ _ _ _)⟩
        rw [unhide HN]
    · have hne : ((p' : Int) != (l.length : Int)) = true := by simp; omega
      have HN := hide ((unhide HND) (fun V2 _ _ _ h => by
        rw [unhide HRV] at h
        injection h with h
        injection h with _ h
        rw [h] at hdt
        have := congrArg List.length hdt
        rw [List.length_drop] at this
        simp at this
        omega))
      clear hR HC HRV HND HG HR HBB hvn hdt hpe
      go_wp2_with fail
      go_quiet (fail)
      have HX3 := hide (show ((w2.alloc (.cells #[.int .i64 k, .int .i64 n, .string s, .slice B m c1, .slice B' m' c1'] 25)).drewN nq).heap[w.heap.size]? = some (.cells zeroCells 25 (0, 0)) from (heap_alloc_old _ _ hz2).trans (unhide HX2))
      have HB3 := hide (belowDrewN nq ((unhide HB2).alloc (unhide HB2).size (.cells #[.int .i64 k, .int .i64 n, .string s, .slice B m c1, .slice B' m' c1'] 25)))
      clear f0 f1 f2 f3 f4 g0 g1 g2 g3 g4 hr1 hr2
      revert HX3 HB3
      generalize ((w2.alloc (.cells #[.int .i64 k, .int .i64 n, .string s, .slice B m c1, .slice B' m' c1'] 25)).drewN nq) = W3
      intro HX3 HB3
      have f0 := (boxAt (unhide HX3) 0).1; have f1 := (boxAt (unhide HX3) 1).1; have f2 := (boxAt (unhide HX3) 2).1; have f3 := (boxAt (unhide HX3) 3).1; have f4 := (boxAt (unhide HX3) 4).1
      have g0 := (boxAt (unhide HX3) 0).2; have g1 := (boxAt (unhide HX3) 1).2; have g2 := (boxAt (unhide HX3) 2).2; have g3 := (boxAt (unhide HX3) 3).2; have g4 := (boxAt (unhide HX3) 4).2
      simp at f0 f1 f2 f3 f4
      go_wp2_with fail
      refine bodyPost_ret (v := .tuple #[zeroV, .int .i64 20]) (by simp [results, Tryd.results17, go_sem, f0, f1, f2, f3, f4]) rfl ⟨?_, (unhide HB3).trans (below5 (Nat.le_refl _) _ _ _ _ _)⟩
      rw [unhide HN]
end Go.Proofs.YtclpbjdnollfcaaDoor
