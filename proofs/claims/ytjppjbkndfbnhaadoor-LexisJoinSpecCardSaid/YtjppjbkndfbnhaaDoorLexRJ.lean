/- Contracts over the program of lexis: the reference's Join. (Written by wip/tools/gen_lexrj.py.) -/
import Derived.Test.YtjppjbkndfbnhaaDoorLexRI
import Derived.Test.YtjppjbkndfbnhaaDoorLexN
namespace Go.Proofs.YtjppjbkndfbnhaaDoor
set_option linter.unusedSimpArgs false
set_option linter.unusedVariables false
open Go.RowKit

/-- what the loop of the reference's Join keeps -/
def RJ (p : List Lx.Tk) (t : Lx.Tk) (m : Nat) (w : World) (k : Nat) (v : Value) (wr : World) : Prop :=
  Below w.heap.size w wr ∧ ((k ≤ m ∧ (p.take k).all Lx.fitP = true ∧ OwnB wr w.heap.size v (Lx.joinL (p.take k))) ∨ (k = m + 1 ∧ Lx.joinR (p ++ [t]) = some (Lx.joinL p) ∧ OwnB wr w.heap.size v (Lx.joinL p)))
theorem rj_bad {p : List Lx.Tk} {t u : Lx.Tk} {k : Nat} (hu : p[k]? = some u) (hf : Lx.fitP u = false) : Lx.joinR (p ++ [t]) = none := by
  rw [joinR_snoc, if_neg]
  rintro ⟨_, h⟩
  rw [List.all_eq_true] at h
  have := h u (List.mem_of_getElem? hu)
  rw [hf] at this
  cases this
theorem rj_badT {p : List Lx.Tk} {t : Lx.Tk} (hf : Lx.endP t = false) : Lx.joinR (p ++ [t]) = none := by
  rw [joinR_snoc, if_neg]
  rintro ⟨h, _⟩
  rw [hf] at h
  cases h
theorem rj_end {k : Int} {s : ByteArray} {a : Int} (h : k ≠ 5) : Lx.endP ⟨k, s, a⟩ = false := by
  unfold Lx.endP
  rw [Bool.and_eq_false_iff, beq_eq_false_iff_ne]
  exact .inl h
theorem rj_next {p : List Lx.Tk} {t u : Lx.Tk} {m k : Nat} {w w2 : World} {v2 : Value} (hk : k < m) (hu : p[k]? = some u) (hall : (p.take k).all Lx.fitP = true) (hf : Lx.fitP u = true) (hb : Below w.heap.size w w2)
    (ho : OwnB w2 w.heap.size v2 (Lx.joinL (p.take k) ++ ((if p.take k = [] then [] else [32]) ++ Lx.outT u))) : RJ p t m w (k + 1) v2 w2 := by
  have hns := List.take_add_one (l := p) (i := k)
  rw [hu] at hns
  have hns' : p.take (k + 1) = p.take k ++ [u] := hns
  refine ⟨hb, .inl ⟨hk, ?_, ?_⟩⟩
  · rw [hns', List.all_append, hall, List.all_cons, hf]; rfl
  · rw [hns', Lx.joinL_snoc]; exact ho
theorem rj_last {p : List Lx.Tk} {a : Int} {m : Nat} {w w2 : World} {v2 : Value} (hm : p.length = m) (hall : (p.take m).all Lx.fitP = true) (hb : Below w.heap.size w w2)
    (ho : OwnB w2 w.heap.size v2 (Lx.joinL (p.take m) ++ L ⟨#[]⟩)) : RJ p ⟨5, ⟨#[]⟩, a⟩ m w (m + 1) v2 w2 := by
  rw [List.take_of_length_le (by omega)] at hall ho
  refine ⟨hb, .inr ⟨rfl, ?_, ?_⟩⟩
  · rw [joinR_snoc, if_pos ⟨rfl, hall⟩]
  · rwa [show L ⟨#[]⟩ = [] from rfl, List.append_nil] at ho
theorem rj_fit1 (s : ByteArray) (a : Int) : Lx.fitP ⟨1, s, a⟩ = Lx.wordP (L s) := rfl
theorem rj_fit2 (s : ByteArray) (a : Int) : Lx.fitP ⟨2, s, a⟩ = Lx.intP (L s) := rfl
theorem rj_fit3 (s : ByteArray) (a : Int) : Lx.fitP ⟨3, s, a⟩ = Lx.cntP (L s) := rfl
theorem rj_fit4 (s : ByteArray) (a : Int) : Lx.fitP ⟨4, s, a⟩ = Lx.sgnP (L s) := rfl
theorem rj_out1 (s : ByteArray) (a : Int) : Lx.outT ⟨1, s, a⟩ = L s := rfl
theorem rj_out2 (s : ByteArray) (a : Int) : Lx.outT ⟨2, s, a⟩ = L s := rfl
theorem rj_out3 (s : ByteArray) (a : Int) : Lx.outT ⟨3, s, a⟩ = Lx.quoteT (L s) := rfl
theorem rj_out4 (s : ByteArray) (a : Int) : Lx.outT ⟨4, s, a⟩ = L s := rfl
set_option maxRecDepth 100000 in
theorem rjoin_nil (A : Option Addr) (c : Nat) (w : World) : Calls Tryd.prog 18 #[.slice A 0 c] w (JoinIs [] w) := by
  go_enter Tryd.func18, Tryd.ntmps18
  go_wp2_with fail
  go_ret2
  exact join_none rfl (Below.refl _ _)
set_option maxRecDepth 100000 in
set_option maxHeartbeats 8000000 in
theorem rjoin_snoc (A : Option Addr) (c n m : Nat) (p : List Lx.Tk) (t : Lx.Tk) (w : World) (hm : p.length = m) (hn : n = m + 1) (hA : TkAt w A (p ++ [t])) (hw : Lx.wgt (p ++ [t]) ≤ 20000) :
    Calls Tryd.prog 18 #[.slice A n c] w (JoinIs (p ++ [t]) w) := by
  have hwp : Lx.wgt p ≤ 20000 := by rw [Lx.wgt_append] at hw; omega
  have hml : m ≤ 20000 := by have := Lx.wgt_len p; omega
  have hsz : ∀ x ∈ p ++ [t], x.t.size ≤ 20000 := fun x hx => Nat.le_trans (Lx.wgt_mem hx) hw
  obtain ⟨bb, o, rfl, hbl, hcl⟩ := hA.at_ (by simp)
  have hcast : ((n : Nat) : Int) - 1 = (m : Int) := by omega
  have hn0 : ((n : Int) == 0) = false := by rw [beq_eq_false_iff_ne]; omega
  have HA := hide hcl; have HSZ := hide hsz; have HWP := hide hwp; have HM := hide hm; have HN := hide hn
  have hmn : m < n := by omega
  have hnb : n ≤ 20001 := by omega
  have hm0 : (0 : Int) ≤ (m : Int) := Int.natCast_nonneg _
  clear hA hsz hwp hm hn hcl hw
  go_enter Tryd.func18, Tryd.ntmps18
  go_wp2_with fail
  go_loopw [4, 5] (fun v i wr => ∃ k : Nat, k ≤ n ∧ i = .int .i64 (k : Int) ∧ RJ p t m w k v wr) (fun _ i _ => n - (intOf i).toNat)
  case atStart => exact ⟨0, Nat.zero_le _, rfl, ⟨(Below.refl _ _).alloc (Nat.le_refl _) _, .inl ⟨Nat.zero_le _, rfl, own_newB w⟩⟩⟩
  case round =>
    obtain ⟨k, hk, rfl, hb, hcase⟩ := hrel
    have hwr := hb.size
    have HB := hide hb
    clear hb
    by_cases hlt : k < n
    · obtain ⟨hkm, hall, hown⟩ : k ≤ m ∧ (p.take k).all Lx.fitP = true ∧ OwnB wr w.heap.size u4 (Lx.joinL (p.take k)) := by
        rcases hcase with h | ⟨h, _⟩
        · exact h
        · have := unhide HN; omega
      have hl1 : (Lx.joinL (p.take k)).length ≤ 60000 := by
        have h1 := Lx.joinL_len (p.take k)
        have h2 := Lx.wgt_take p k
        have := unhide HWP
        omega
      have hkb := (unhide HB).block bb hbl
      have HALL := hide hall; have HO := hide hown; have HL1 := hide hl1
      clear hall hown hcase hl1
      by_cases hlm : k < m
      · obtain ⟨u, hu⟩ : ∃ u, p[k]? = some u := ⟨_, List.getElem?_eq_getElem (by have := unhide HM; omega)⟩
        obtain ⟨d0, d1, d2⟩ := (unhide HA) k u (by rw [List.getElem?_append_left (by have := unhide HM; omega)]; exact hu)
        rw [← cell_block hkb] at d0 d1 d2
        have hts := (unhide HSZ) u (List.mem_append.2 (.inl (List.mem_of_getElem? hu)))
        have hql : ((k : Int) == (m : Int)) = false := by rw [beq_eq_false_iff_ne]; omega
        have hql' : ¬ (k : Int) = (m : Int) := by omega
        have hne : (p.take k = []) ↔ k = 0 := by
          rw [List.take_eq_nil_iff]
          constructor
          · rintro (h | h)
            · exact h
            · rw [h] at hu; simp at hu
          · exact .inl
        have HU := hide hu; have HNE := hide hne
        clear hu hne
        obtain ⟨xk, xs, xa⟩ := u
        simp only at d0 d1 d2 hts
        have hzero : k = 0 → wr.cell? ⟨bb, o, none⟩ = some (.int .i64 xk) ∧ wr.cell? ⟨bb, o + 1, none⟩ = some (.string xs) ∧ wr.cell? ⟨bb, o + 2, none⟩ = some (.int .i64 xa) := fun e => by
          subst e
          rw [Nat.zero_mul, Nat.add_zero] at d0 d1 d2
          exact ⟨d0, d1, d2⟩
        have HZ := hide hzero
        have HLT := hide hlm
        clear hzero hlm
        by_cases h1 : xk = 1
        · subst h1
          have hc := fun W => rword_any xs W (by omega)
          cases hb : Lx.wordP (L xs)
          · rw [hb] at hc
            have HC := hide hc
            have HNO := hide (rj_bad (t := t) (unhide HU) (by rw [rj_fit1]; exact hb))
            clear hc hb
            go_wp2_with fail
            refine ((unhide HC) _).mono ?_; rintro e wx ⟨rfl, rfl⟩
            go_wp2_with fail
            go_ret2
            exact join_none (unhide HNO) (unhide HB)
          · rw [hb] at hc
            have HC := hide hc
            have HFIT := hide (show Lx.fitP ⟨1, xs, xa⟩ = true from by rw [rj_fit1]; exact hb)
            have HOS := hide (show L xs = Lx.outT ⟨1, xs, xa⟩ from (rj_out1 xs xa).symm)
            have hos : (xs : ByteArray).size ≤ 60000 := by have h := congrArg List.length (unhide HOS); rw [L_len] at h; have := Lx.outT_len ⟨1, xs, xa⟩; simp only at this; omega
            clear hc hb
            by_cases h0 : k = 0
            · obtain ⟨z0, z1, z2⟩ := (unhide HZ) h0
              subst h0
              clear d0 d1 d2
              go_wp2_with fail
              refine ((unhide HC) _).mono ?_; rintro e wx ⟨rfl, rfl⟩
              go_wp2_with (at_builtin; refine wpList_appS rfl _ _ rfl w.heap.size _ (Lx.joinL (p.take 0)) xs rfl rfl (unhide HO) ?c1 ?c2 ?_)
              case c1 => have := unhide HL1; omega
              case c2 => omega
              intro v2 w2 hown hgrow
              have HR := hide (rj_next (t := t) (unhide HLT) (unhide HU) (unhide HALL) (unhide HFIT) ((unhide HB).grown hgrow (by omega) (own_lt (unhide HO))) (by rw [if_pos (by simp), ← unhide HOS]; simpa using hown))
              clear hown hgrow
              go_wp2_with fail
              go_roundw
              case rel => exact ⟨0 + 1, by omega, by go_num, unhide HR⟩
              case measure => simp [intOf]; omega
            · have k0 : (0 : Int) < (k : Int) := by omega
              go_wp2_with fail
              refine ((unhide HC) _).mono ?_; rintro e wx ⟨rfl, rfl⟩
              go_wp2_with (at_builtin; refine wpList_appB rfl _ _ rfl w.heap.size _ (Lx.joinL (p.take k)) [32] wx.heap.size 1 1 rfl rfl rfl (World.ownsRow.alloc (unhide HO) _) (oneB ?c1) ?c3 ?c4 ?_)
              case c1 => go_simp
              case c3 => have := unhide HL1; simp only [List.length_cons, List.length_nil]; omega
              case c4 => simp; omega
              intro v1 w1' hown hgrow
              have HO1' := hide hown
              have HB1' := hide (((unhide HB).alloc hwr _).grown hgrow (by simp; omega) (own_lt (unhide HO)))
              have hsw : w.heap.size ≤ w1'.heap.size := (unhide HB1').size
              clear hown hgrow
              go_wp2_with (at_builtin; refine wpList_appS rfl _ _ rfl w.heap.size _ (Lx.joinL (p.take k) ++ [32]) xs rfl rfl (unhide HO1') ?c1 ?c2 ?_)
              case c1 => have := unhide HL1; simp only [List.length_append, List.length_cons, List.length_nil]; omega
              case c2 => omega
              intro v2 w2 hown hgrow
              have HR := hide (rj_next (t := t) (unhide HLT) (unhide HU) (unhide HALL) (unhide HFIT) ((unhide HB1').grown hgrow (by omega) (own_lt (unhide HO1'))) (by rw [if_neg (fun e => h0 ((unhide HNE).1 e)), ← unhide HOS]; simpa using hown))
              clear hown hgrow
              go_wp2_with fail
              go_roundw
              case rel => exact ⟨k + 1, by omega, by go_num, unhide HR⟩
              case measure => simp [intOf]; omega
        by_cases h2 : xk = 2
        · subst h2
          have hc := fun W => rint_any xs W (by omega)
          cases hb : Lx.intP (L xs)
          · rw [hb] at hc
            have HC := hide hc
            have HNO := hide (rj_bad (t := t) (unhide HU) (by rw [rj_fit2]; exact hb))
            clear hc hb
            go_wp2_with fail
            refine ((unhide HC) _).mono ?_; rintro e wx ⟨rfl, rfl⟩
            go_wp2_with fail
            go_ret2
            exact join_none (unhide HNO) (unhide HB)
          · rw [hb] at hc
            have HC := hide hc
            have HFIT := hide (show Lx.fitP ⟨2, xs, xa⟩ = true from by rw [rj_fit2]; exact hb)
            have HOS := hide (show L xs = Lx.outT ⟨2, xs, xa⟩ from (rj_out2 xs xa).symm)
            have hos : (xs : ByteArray).size ≤ 60000 := by have h := congrArg List.length (unhide HOS); rw [L_len] at h; have := Lx.outT_len ⟨2, xs, xa⟩; simp only at this; omega
            clear hc hb
            by_cases h0 : k = 0
            · obtain ⟨z0, z1, z2⟩ := (unhide HZ) h0
              subst h0
              clear d0 d1 d2
              go_wp2_with fail
              refine ((unhide HC) _).mono ?_; rintro e wx ⟨rfl, rfl⟩
              go_wp2_with (at_builtin; refine wpList_appS rfl _ _ rfl w.heap.size _ (Lx.joinL (p.take 0)) xs rfl rfl (unhide HO) ?c1 ?c2 ?_)
              case c1 => have := unhide HL1; omega
              case c2 => omega
              intro v2 w2 hown hgrow
              have HR := hide (rj_next (t := t) (unhide HLT) (unhide HU) (unhide HALL) (unhide HFIT) ((unhide HB).grown hgrow (by omega) (own_lt (unhide HO))) (by rw [if_pos (by simp), ← unhide HOS]; simpa using hown))
              clear hown hgrow
              go_wp2_with fail
              go_roundw
              case rel => exact ⟨0 + 1, by omega, by go_num, unhide HR⟩
              case measure => simp [intOf]; omega
            · have k0 : (0 : Int) < (k : Int) := by omega
              go_wp2_with fail
              refine ((unhide HC) _).mono ?_; rintro e wx ⟨rfl, rfl⟩
              go_wp2_with (at_builtin; refine wpList_appB rfl _ _ rfl w.heap.size _ (Lx.joinL (p.take k)) [32] wx.heap.size 1 1 rfl rfl rfl (World.ownsRow.alloc (unhide HO) _) (oneB ?c1) ?c3 ?c4 ?_)
              case c1 => go_simp
              case c3 => have := unhide HL1; simp only [List.length_cons, List.length_nil]; omega
              case c4 => simp; omega
              intro v1 w1' hown hgrow
              have HO1' := hide hown
              have HB1' := hide (((unhide HB).alloc hwr _).grown hgrow (by simp; omega) (own_lt (unhide HO)))
              have hsw : w.heap.size ≤ w1'.heap.size := (unhide HB1').size
              clear hown hgrow
              go_wp2_with (at_builtin; refine wpList_appS rfl _ _ rfl w.heap.size _ (Lx.joinL (p.take k) ++ [32]) xs rfl rfl (unhide HO1') ?c1 ?c2 ?_)
              case c1 => have := unhide HL1; simp only [List.length_append, List.length_cons, List.length_nil]; omega
              case c2 => omega
              intro v2 w2 hown hgrow
              have HR := hide (rj_next (t := t) (unhide HLT) (unhide HU) (unhide HALL) (unhide HFIT) ((unhide HB1').grown hgrow (by omega) (own_lt (unhide HO1'))) (by rw [if_neg (fun e => h0 ((unhide HNE).1 e)), ← unhide HOS]; simpa using hown))
              clear hown hgrow
              go_wp2_with fail
              go_roundw
              case rel => exact ⟨k + 1, by omega, by go_num, unhide HR⟩
              case measure => simp [intOf]; omega
        by_cases h3 : xk = 3
        · subst h3
          have hc := fun W => rcont_any xs W (by omega)
          have hq := fun W => rquote_any xs W (by omega)
          unfold StrIs at hq
          have HQ := hide hq
          clear hq
          cases hb : Lx.cntP (L xs)
          · rw [hb] at hc
            have HC := hide hc
            have HNO := hide (rj_bad (t := t) (unhide HU) (by rw [rj_fit3]; exact hb))
            clear hc hb
            go_wp2_with fail
            refine ((unhide HC) _).mono ?_; rintro e wx ⟨rfl, rfl⟩
            go_wp2_with fail
            refine ((unhide HQ) _).mono ?_; rintro e w1 ⟨rfl, hb1⟩
            have HB1 := hide (thenB (unhide HB) hb1)
            have HO1 := hide ((unhide HO).later hb1)
            have hwr1 : w.heap.size ≤ w1.heap.size := Nat.le_trans hwr hb1.size
            have hkb1 := hb1.block bb (Nat.lt_of_lt_of_le hbl hwr)
            have f0 := (cell_block hkb1).trans d0
            clear hb1 hkb1
            go_wp2_with fail
            go_ret2
            exact join_none (unhide HNO) (unhide HB1)
          · rw [hb] at hc
            have HC := hide hc
            have HFIT := hide (show Lx.fitP ⟨3, xs, xa⟩ = true from by rw [rj_fit3]; exact hb)
            have HOS := hide (show L ⟨(Lx.quoteT (L xs)).toArray⟩ = Lx.outT ⟨3, xs, xa⟩ from (L_mk _).trans (rj_out3 xs xa).symm)
            have hos : (⟨(Lx.quoteT (L xs)).toArray⟩ : ByteArray).size ≤ 60000 := by have h := congrArg List.length (unhide HOS); rw [L_len] at h; have := Lx.outT_len ⟨3, xs, xa⟩; simp only at this; omega
            clear hc hb
            by_cases h0 : k = 0
            · obtain ⟨z0, z1, z2⟩ := (unhide HZ) h0
              subst h0
              clear d0 d1 d2
              go_wp2_with fail
              refine ((unhide HC) _).mono ?_; rintro e wx ⟨rfl, rfl⟩
              go_wp2_with fail
              refine ((unhide HQ) _).mono ?_; rintro e w1 ⟨rfl, hb1⟩
              have HB1 := hide (thenB (unhide HB) hb1)
              have HO1 := hide ((unhide HO).later hb1)
              have hwr1 : w.heap.size ≤ w1.heap.size := Nat.le_trans hwr hb1.size
              have hkb1 := hb1.block bb (Nat.lt_of_lt_of_le hbl hwr)
              have f0 := (cell_block hkb1).trans z0
              clear hb1 hkb1
              go_wp2_with (at_builtin; refine wpList_appS rfl _ _ rfl w.heap.size _ (Lx.joinL (p.take 0)) ⟨(Lx.quoteT (L xs)).toArray⟩ rfl rfl (unhide HO1) ?c1 ?c2 ?_)
              case c1 => have := unhide HL1; omega
              case c2 => omega
              intro v2 w2 hown hgrow
              have HR := hide (rj_next (t := t) (unhide HLT) (unhide HU) (unhide HALL) (unhide HFIT) ((unhide HB1).grown hgrow (by omega) (own_lt (unhide HO1))) (by rw [if_pos (by simp), ← unhide HOS]; simpa using hown))
              clear hown hgrow
              go_wp2_with fail
              go_roundw
              case rel => exact ⟨0 + 1, by omega, by go_num, unhide HR⟩
              case measure => simp [intOf]; omega
            · have k0 : (0 : Int) < (k : Int) := by omega
              go_wp2_with fail
              refine ((unhide HC) _).mono ?_; rintro e wx ⟨rfl, rfl⟩
              go_wp2_with fail
              refine ((unhide HQ) _).mono ?_; rintro e w1 ⟨rfl, hb1⟩
              have HB1 := hide (thenB (unhide HB) hb1)
              have HO1 := hide ((unhide HO).later hb1)
              have hwr1 : w.heap.size ≤ w1.heap.size := Nat.le_trans hwr hb1.size
              have hkb1 := hb1.block bb (Nat.lt_of_lt_of_le hbl hwr)
              have f0 := (cell_block hkb1).trans d0
              clear hb1 hkb1
              go_wp2_with (at_builtin; refine wpList_appB rfl _ _ rfl w.heap.size _ (Lx.joinL (p.take k)) [32] w1.heap.size 1 1 rfl rfl rfl (World.ownsRow.alloc (unhide HO1) _) (oneB ?c1) ?c3 ?c4 ?_)
              case c1 => go_simp
              case c3 => have := unhide HL1; simp only [List.length_cons, List.length_nil]; omega
              case c4 => simp; omega
              intro v1 w1' hown hgrow
              have HO1' := hide hown
              have HB1' := hide (((unhide HB1).alloc hwr1 _).grown hgrow (by simp; omega) (own_lt (unhide HO1)))
              have hsw : w.heap.size ≤ w1'.heap.size := (unhide HB1').size
              clear hown hgrow
              go_wp2_with (at_builtin; refine wpList_appS rfl _ _ rfl w.heap.size _ (Lx.joinL (p.take k) ++ [32]) ⟨(Lx.quoteT (L xs)).toArray⟩ rfl rfl (unhide HO1') ?c1 ?c2 ?_)
              case c1 => have := unhide HL1; simp only [List.length_append, List.length_cons, List.length_nil]; omega
              case c2 => omega
              intro v2 w2 hown hgrow
              have HR := hide (rj_next (t := t) (unhide HLT) (unhide HU) (unhide HALL) (unhide HFIT) ((unhide HB1').grown hgrow (by omega) (own_lt (unhide HO1'))) (by rw [if_neg (fun e => h0 ((unhide HNE).1 e)), ← unhide HOS]; simpa using hown))
              clear hown hgrow
              go_wp2_with fail
              go_roundw
              case rel => exact ⟨k + 1, by omega, by go_num, unhide HR⟩
              case measure => simp [intOf]; omega
        by_cases h4 : xk = 4
        · subst h4
          have hc := fun W => rsign_any xs W
          cases hb : Lx.sgnP (L xs)
          · rw [hb] at hc
            have HC := hide hc
            have HNO := hide (rj_bad (t := t) (unhide HU) (by rw [rj_fit4]; exact hb))
            clear hc hb
            go_wp2_with fail
            refine ((unhide HC) _).mono ?_; rintro e wx ⟨rfl, rfl⟩
            go_wp2_with fail
            go_ret2
            exact join_none (unhide HNO) (unhide HB)
          · rw [hb] at hc
            have HC := hide hc
            have HFIT := hide (show Lx.fitP ⟨4, xs, xa⟩ = true from by rw [rj_fit4]; exact hb)
            have HOS := hide (show L xs = Lx.outT ⟨4, xs, xa⟩ from (rj_out4 xs xa).symm)
            have hos : (xs : ByteArray).size ≤ 60000 := by have h := congrArg List.length (unhide HOS); rw [L_len] at h; have := Lx.outT_len ⟨4, xs, xa⟩; simp only at this; omega
            clear hc hb
            by_cases h0 : k = 0
            · obtain ⟨z0, z1, z2⟩ := (unhide HZ) h0
              subst h0
              clear d0 d1 d2
              go_wp2_with fail
              refine ((unhide HC) _).mono ?_; rintro e wx ⟨rfl, rfl⟩
              go_wp2_with (at_builtin; refine wpList_appS rfl _ _ rfl w.heap.size _ (Lx.joinL (p.take 0)) xs rfl rfl (unhide HO) ?c1 ?c2 ?_)
              case c1 => have := unhide HL1; omega
              case c2 => omega
              intro v2 w2 hown hgrow
              have HR := hide (rj_next (t := t) (unhide HLT) (unhide HU) (unhide HALL) (unhide HFIT) ((unhide HB).grown hgrow (by omega) (own_lt (unhide HO))) (by rw [if_pos (by simp), ← unhide HOS]; simpa using hown))
              clear hown hgrow
              go_wp2_with fail
              go_roundw
              case rel => exact ⟨0 + 1, by omega, by go_num, unhide HR⟩
              case measure => simp [intOf]; omega
            · have k0 : (0 : Int) < (k : Int) := by omega
              go_wp2_with fail
              refine ((unhide HC) _).mono ?_; rintro e wx ⟨rfl, rfl⟩
              go_wp2_with (at_builtin; refine wpList_appB rfl _ _ rfl w.heap.size _ (Lx.joinL (p.take k)) [32] wx.heap.size 1 1 rfl rfl rfl (World.ownsRow.alloc (unhide HO) _) (oneB ?c1) ?c3 ?c4 ?_)
              case c1 => go_simp
              case c3 => have := unhide HL1; simp only [List.length_cons, List.length_nil]; omega
              case c4 => simp; omega
              intro v1 w1' hown hgrow
              have HO1' := hide hown
              have HB1' := hide (((unhide HB).alloc hwr _).grown hgrow (by simp; omega) (own_lt (unhide HO)))
              have hsw : w.heap.size ≤ w1'.heap.size := (unhide HB1').size
              clear hown hgrow
              go_wp2_with (at_builtin; refine wpList_appS rfl _ _ rfl w.heap.size _ (Lx.joinL (p.take k) ++ [32]) xs rfl rfl (unhide HO1') ?c1 ?c2 ?_)
              case c1 => have := unhide HL1; simp only [List.length_append, List.length_cons, List.length_nil]; omega
              case c2 => omega
              intro v2 w2 hown hgrow
              have HR := hide (rj_next (t := t) (unhide HLT) (unhide HU) (unhide HALL) (unhide HFIT) ((unhide HB1').grown hgrow (by omega) (own_lt (unhide HO1'))) (by rw [if_neg (fun e => h0 ((unhide HNE).1 e)), ← unhide HOS]; simpa using hown))
              clear hown hgrow
              go_wp2_with fail
              go_roundw
              case rel => exact ⟨k + 1, by omega, by go_num, unhide HR⟩
              case measure => simp [intOf]; omega
        have e1 : (xk == 1) = false := by rw [beq_eq_false_iff_ne]; exact h1
        have e2 : (xk == 2) = false := by rw [beq_eq_false_iff_ne]; exact h2
        have e3 : (xk == 3) = false := by rw [beq_eq_false_iff_ne]; exact h3
        have e4 : (xk == 4) = false := by rw [beq_eq_false_iff_ne]; exact h4
        have HNO := hide (rj_bad (t := t) (unhide HU) (show Lx.fitP ⟨xk, xs, xa⟩ = false by unfold Lx.fitP; simp only; rw [if_neg h1, if_neg h2, if_neg h3, if_neg h4]))
        clear h1 h2 h3 h4
        by_cases h5 : xk = 5
        · subst h5
          go_wp2_with fail
          go_ret2
          exact join_none (unhide HNO) (unhide HB)
        · have e5 : (xk == 5) = false := by rw [beq_eq_false_iff_ne]; exact h5
          clear h5
          go_wp2_with fail
          go_ret2
          exact join_none (unhide HNO) (unhide HB)
      · obtain rfl : k = m := by omega
        obtain ⟨d0, d1, d2⟩ := (unhide HA) k t (by rw [List.getElem?_append_right (by have := unhide HM; omega), unhide HM, Nat.sub_self]; rfl)
        rw [← cell_block hkb] at d0 d1 d2
        have hts := (unhide HSZ) t (List.mem_append.2 (.inr (List.mem_singleton.2 rfl)))
        obtain ⟨xk, xs, xa⟩ := t
        simp only at d0 d1 d2 hts
        have hq0 : ((k : Int) == (k : Int)) = true := by simp
        clear hlm
        by_cases hz : k = 0
        · subst hz
          rw [Nat.zero_mul, Nat.add_zero] at d0 d1 d2
          by_cases h1 : xk = 1
          · subst h1
            have hc := fun W => rword_any xs W (by omega)
            have HNO := hide (rj_badT (p := p) (rj_end (k := 1) (s := xs) (a := xa) (by decide)))
            cases hb : Lx.wordP (L xs)
            · rw [hb] at hc
              have HC := hide hc
              clear hc hb
              go_wp2_with fail
              refine ((unhide HC) _).mono ?_; rintro e wx ⟨rfl, rfl⟩
              go_wp2_with fail
              go_ret2
              exact join_none (unhide HNO) (unhide HB)
            · rw [hb] at hc
              have HC := hide hc
              clear hc hb
              go_wp2_with fail
              refine ((unhide HC) _).mono ?_; rintro e wx ⟨rfl, rfl⟩
              go_wp2_with fail
              go_ret2
              exact join_none (unhide HNO) (unhide HB)
          by_cases h2 : xk = 2
          · subst h2
            have hc := fun W => rint_any xs W (by omega)
            have HNO := hide (rj_badT (p := p) (rj_end (k := 2) (s := xs) (a := xa) (by decide)))
            cases hb : Lx.intP (L xs)
            · rw [hb] at hc
              have HC := hide hc
              clear hc hb
              go_wp2_with fail
              refine ((unhide HC) _).mono ?_; rintro e wx ⟨rfl, rfl⟩
              go_wp2_with fail
              go_ret2
              exact join_none (unhide HNO) (unhide HB)
            · rw [hb] at hc
              have HC := hide hc
              clear hc hb
              go_wp2_with fail
              refine ((unhide HC) _).mono ?_; rintro e wx ⟨rfl, rfl⟩
              go_wp2_with fail
              go_ret2
              exact join_none (unhide HNO) (unhide HB)
          by_cases h3 : xk = 3
          · subst h3
            have hc := fun W => rcont_any xs W (by omega)
            have hq := fun W => rquote_any xs W (by omega)
            unfold StrIs at hq
            have HQ := hide hq
            clear hq
            have HNO := hide (rj_badT (p := p) (rj_end (k := 3) (s := xs) (a := xa) (by decide)))
            cases hb : Lx.cntP (L xs)
            · rw [hb] at hc
              have HC := hide hc
              clear hc hb
              go_wp2_with fail
              refine ((unhide HC) _).mono ?_; rintro e wx ⟨rfl, rfl⟩
              go_wp2_with fail
              refine ((unhide HQ) _).mono ?_; rintro e w1 ⟨rfl, hb1⟩
              have HB1 := hide (thenB (unhide HB) hb1)
              have hkb1 := hb1.block bb (Nat.lt_of_lt_of_le hbl hwr)
              have f0 := (cell_block hkb1).trans d0
              clear hb1 hkb1
              go_wp2_with fail
              go_ret2
              exact join_none (unhide HNO) (unhide HB1)
            · rw [hb] at hc
              have HC := hide hc
              clear hc hb
              go_wp2_with fail
              refine ((unhide HC) _).mono ?_; rintro e wx ⟨rfl, rfl⟩
              go_wp2_with fail
              refine ((unhide HQ) _).mono ?_; rintro e w1 ⟨rfl, hb1⟩
              have HB1 := hide (thenB (unhide HB) hb1)
              have hkb1 := hb1.block bb (Nat.lt_of_lt_of_le hbl hwr)
              have f0 := (cell_block hkb1).trans d0
              clear hb1 hkb1
              go_wp2_with fail
              go_ret2
              exact join_none (unhide HNO) (unhide HB1)
          by_cases h4 : xk = 4
          · subst h4
            have hc := fun W => rsign_any xs W
            have HNO := hide (rj_badT (p := p) (rj_end (k := 4) (s := xs) (a := xa) (by decide)))
            cases hb : Lx.sgnP (L xs)
            · rw [hb] at hc
              have HC := hide hc
              clear hc hb
              go_wp2_with fail
              refine ((unhide HC) _).mono ?_; rintro e wx ⟨rfl, rfl⟩
              go_wp2_with fail
              go_ret2
              exact join_none (unhide HNO) (unhide HB)
            · rw [hb] at hc
              have HC := hide hc
              clear hc hb
              go_wp2_with fail
              refine ((unhide HC) _).mono ?_; rintro e wx ⟨rfl, rfl⟩
              go_wp2_with fail
              go_ret2
              exact join_none (unhide HNO) (unhide HB)
          have e1 : (xk == 1) = false := by rw [beq_eq_false_iff_ne]; exact h1
          have e2 : (xk == 2) = false := by rw [beq_eq_false_iff_ne]; exact h2
          have e3 : (xk == 3) = false := by rw [beq_eq_false_iff_ne]; exact h3
          have e4 : (xk == 4) = false := by rw [beq_eq_false_iff_ne]; exact h4
          clear h1 h2 h3 h4
          by_cases h5 : xk = 5
          · subst h5
            by_cases hx : xs.size = 0
            · obtain rfl : xs = ⟨#[]⟩ := L_eq (by rw [List.eq_nil_iff_length_eq_zero.2 (show (L xs).length = 0 by rw [L_len]; exact hx)] <;> rfl)
              clear hx
              go_wp2_with (at_builtin; refine wpList_appS rfl _ _ rfl w.heap.size _ (Lx.joinL (p.take 0)) ⟨#[]⟩ rfl rfl (unhide HO) ?c1 ?c2 ?_)
              case c1 => have := unhide HL1; have h00 : (⟨#[]⟩ : ByteArray).size = 0 := rfl; omega
              case c2 => omega
              intro v2 w2 hown hgrow
              have HR := hide (rj_last (a := xa) (unhide HM) (unhide HALL) ((unhide HB).grown hgrow (by omega) (own_lt (unhide HO))) hown)
              clear hown hgrow
              go_wp2_with fail
              go_roundw
              case rel => exact ⟨0 + 1, by omega, by go_num, unhide HR⟩
              case measure => simp [intOf]; omega
            · have HNO := hide (rj_badT (p := p) (show Lx.endP ⟨5, xs, xa⟩ = false by unfold Lx.endP; simp only; rw [Bool.and_eq_false_iff, beq_eq_false_iff_ne]; exact .inr (by rw [beq_eq_false_iff_ne]; exact hx)))
              have htl : ¬ xs.toList = [] := by
                rw [L_toList]
                intro e
                have := congrArg List.length e
                rw [L_len] at this
                exact hx this
              have hxn : ¬ xs = ⟨#[]⟩ := fun e => hx (by rw [e]; rfl)
              have hte : xs.toList.isEmpty = false := by simpa using htl
              clear hx
              go_wp2_with fail
              go_ret2
              exact join_none (unhide HNO) (unhide HB)
          · have e5 : (xk == 5) = false := by rw [beq_eq_false_iff_ne]; exact h5
            have HNO := hide (rj_badT (p := p) (rj_end (k := xk) (s := xs) (a := xa) h5))
            clear h5
            go_wp2_with fail
            go_ret2
            exact join_none (unhide HNO) (unhide HB)
        · have k0 : (0 : Int) < (k : Int) := by omega
          by_cases h1 : xk = 1
          · subst h1
            have hc := fun W => rword_any xs W (by omega)
            have HNO := hide (rj_badT (p := p) (rj_end (k := 1) (s := xs) (a := xa) (by decide)))
            cases hb : Lx.wordP (L xs)
            · rw [hb] at hc
              have HC := hide hc
              clear hc hb
              go_wp2_with fail
              refine ((unhide HC) _).mono ?_; rintro e wx ⟨rfl, rfl⟩
              go_wp2_with fail
              go_ret2
              exact join_none (unhide HNO) (unhide HB)
            · rw [hb] at hc
              have HC := hide hc
              clear hc hb
              go_wp2_with fail
              refine ((unhide HC) _).mono ?_; rintro e wx ⟨rfl, rfl⟩
              go_wp2_with fail
              go_ret2
              exact join_none (unhide HNO) (unhide HB)
          by_cases h2 : xk = 2
          · subst h2
            have hc := fun W => rint_any xs W (by omega)
            have HNO := hide (rj_badT (p := p) (rj_end (k := 2) (s := xs) (a := xa) (by decide)))
            cases hb : Lx.intP (L xs)
            · rw [hb] at hc
              have HC := hide hc
              clear hc hb
              go_wp2_with fail
              refine ((unhide HC) _).mono ?_; rintro e wx ⟨rfl, rfl⟩
              go_wp2_with fail
              go_ret2
              exact join_none (unhide HNO) (unhide HB)
            · rw [hb] at hc
              have HC := hide hc
              clear hc hb
              go_wp2_with fail
              refine ((unhide HC) _).mono ?_; rintro e wx ⟨rfl, rfl⟩
              go_wp2_with fail
              go_ret2
              exact join_none (unhide HNO) (unhide HB)
          by_cases h3 : xk = 3
          · subst h3
            have hc := fun W => rcont_any xs W (by omega)
            have hq := fun W => rquote_any xs W (by omega)
            unfold StrIs at hq
            have HQ := hide hq
            clear hq
            have HNO := hide (rj_badT (p := p) (rj_end (k := 3) (s := xs) (a := xa) (by decide)))
            cases hb : Lx.cntP (L xs)
            · rw [hb] at hc
              have HC := hide hc
              clear hc hb
              go_wp2_with fail
              refine ((unhide HC) _).mono ?_; rintro e wx ⟨rfl, rfl⟩
              go_wp2_with fail
              refine ((unhide HQ) _).mono ?_; rintro e w1 ⟨rfl, hb1⟩
              have HB1 := hide (thenB (unhide HB) hb1)
              have hkb1 := hb1.block bb (Nat.lt_of_lt_of_le hbl hwr)
              have f0 := (cell_block hkb1).trans d0
              clear hb1 hkb1
              go_wp2_with fail
              go_ret2
              exact join_none (unhide HNO) (unhide HB1)
            · rw [hb] at hc
              have HC := hide hc
              clear hc hb
              go_wp2_with fail
              refine ((unhide HC) _).mono ?_; rintro e wx ⟨rfl, rfl⟩
              go_wp2_with fail
              refine ((unhide HQ) _).mono ?_; rintro e w1 ⟨rfl, hb1⟩
              have HB1 := hide (thenB (unhide HB) hb1)
              have hkb1 := hb1.block bb (Nat.lt_of_lt_of_le hbl hwr)
              have f0 := (cell_block hkb1).trans d0
              clear hb1 hkb1
              go_wp2_with fail
              go_ret2
              exact join_none (unhide HNO) (unhide HB1)
          by_cases h4 : xk = 4
          · subst h4
            have hc := fun W => rsign_any xs W
            have HNO := hide (rj_badT (p := p) (rj_end (k := 4) (s := xs) (a := xa) (by decide)))
            cases hb : Lx.sgnP (L xs)
            · rw [hb] at hc
              have HC := hide hc
              clear hc hb
              go_wp2_with fail
              refine ((unhide HC) _).mono ?_; rintro e wx ⟨rfl, rfl⟩
              go_wp2_with fail
              go_ret2
              exact join_none (unhide HNO) (unhide HB)
            · rw [hb] at hc
              have HC := hide hc
              clear hc hb
              go_wp2_with fail
              refine ((unhide HC) _).mono ?_; rintro e wx ⟨rfl, rfl⟩
              go_wp2_with fail
              go_ret2
              exact join_none (unhide HNO) (unhide HB)
          have e1 : (xk == 1) = false := by rw [beq_eq_false_iff_ne]; exact h1
          have e2 : (xk == 2) = false := by rw [beq_eq_false_iff_ne]; exact h2
          have e3 : (xk == 3) = false := by rw [beq_eq_false_iff_ne]; exact h3
          have e4 : (xk == 4) = false := by rw [beq_eq_false_iff_ne]; exact h4
          clear h1 h2 h3 h4
          by_cases h5 : xk = 5
          · subst h5
            by_cases hx : xs.size = 0
            · obtain rfl : xs = ⟨#[]⟩ := L_eq (by rw [List.eq_nil_iff_length_eq_zero.2 (show (L xs).length = 0 by rw [L_len]; exact hx)] <;> rfl)
              clear hx
              go_wp2_with (at_builtin; refine wpList_appS rfl _ _ rfl w.heap.size _ (Lx.joinL (p.take k)) ⟨#[]⟩ rfl rfl (unhide HO) ?c1 ?c2 ?_)
              case c1 => have := unhide HL1; have h00 : (⟨#[]⟩ : ByteArray).size = 0 := rfl; omega
              case c2 => omega
              intro v2 w2 hown hgrow
              have HR := hide (rj_last (a := xa) (unhide HM) (unhide HALL) ((unhide HB).grown hgrow (by omega) (own_lt (unhide HO))) hown)
              clear hown hgrow
              go_wp2_with fail
              go_roundw
              case rel => exact ⟨k + 1, by omega, by go_num, unhide HR⟩
              case measure => simp [intOf]; omega
            · have HNO := hide (rj_badT (p := p) (show Lx.endP ⟨5, xs, xa⟩ = false by unfold Lx.endP; simp only; rw [Bool.and_eq_false_iff, beq_eq_false_iff_ne]; exact .inr (by rw [beq_eq_false_iff_ne]; exact hx)))
              have htl : ¬ xs.toList = [] := by
                rw [L_toList]
                intro e
                have := congrArg List.length e
                rw [L_len] at this
                exact hx this
              have hxn : ¬ xs = ⟨#[]⟩ := fun e => hx (by rw [e]; rfl)
              have hte : xs.toList.isEmpty = false := by simpa using htl
              clear hx
              go_wp2_with fail
              go_ret2
              exact join_none (unhide HNO) (unhide HB)
          · have e5 : (xk == 5) = false := by rw [beq_eq_false_iff_ne]; exact h5
            have HNO := hide (rj_badT (p := p) (rj_end (k := xk) (s := xs) (a := xa) h5))
            clear h5
            go_wp2_with fail
            go_ret2
            exact join_none (unhide HNO) (unhide HB)
    · obtain ⟨hj, hown⟩ : Lx.joinR (p ++ [t]) = some (Lx.joinL p) ∧ OwnB wr w.heap.size u4 (Lx.joinL p) := by
        rcases hcase with ⟨h, _⟩ | ⟨_, h⟩
        · omega
        · exact h
      have hl1 : (Lx.joinL p).length ≤ 60000 := by
        have h1 := Lx.joinL_len p
        have := unhide HWP
        omega
      obtain ⟨A2, c2, rfl⟩ := own_slice hown
      have HJ := hide hj; have HO := hide hown
      obtain ⟨n2, hn2⟩ : ∃ n2, n2 = (Lx.joinL p).length := ⟨_, rfl⟩
      rw [← hn2] at hl1 HO ⊢
      have hn2i : ¬ (65536 : Int) < (n2 : Int) := by omega
      clear hj hown hcase hn2
      go_wp2_with fail
      go_ret2
      exact join_some (unhide HJ) (unhide HB) (unhide HO)
theorem rjoin_any (A : Option Addr) (c n : Nat) (l : List Lx.Tk) (w : World) (hn : l.length = n) (hA : TkAt w A l) (hw : Lx.wgt l ≤ 20000) :
    Calls Tryd.prog 18 #[.slice A n c] w (JoinIs l w) := by
  rcases List.eq_nil_or_concat l with rfl | ⟨p, t, rfl⟩
  · subst hn
    exact rjoin_nil A c w
  · rw [List.concat_eq_append] at *
    exact rjoin_snoc A c n p.length p t w rfl (by rw [← hn, List.length_append]; rfl) hA hw
end Go.Proofs.YtjppjbkndfbnhaaDoor
