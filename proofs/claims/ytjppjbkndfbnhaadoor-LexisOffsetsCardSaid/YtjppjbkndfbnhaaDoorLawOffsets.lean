/- The law LexisOffsets returns true for all texts. -/
import Derived.Test.YtjppjbkndfbnhaaDoorLexOffMath
import Derived.Test.YtjppjbkndfbnhaaDoorLexBk
import Derived.Test.YtjppjbkndfbnhaaDoorLexRT
import Derived.Test.YtjppjbkndfbnhaaDoorClose
import Derived.Maps.Own
import Derived.Maps.OwnSet
namespace Go.Proofs.YtjppjbkndfbnhaaDoor
set_option linter.unusedSimpArgs false
set_option linter.unusedVariables false
open Go.RowKit Go.LawClose

theorem wrapN (x : Int) (h0 : 0 ≤ x) (h : x ≤ 1000000) : IntKind.i64.wrap x = x := by
  unfold IntKind.wrap
  simp [IntKind.bits, IntKind.signed]
  omega
/-- how an element of a set of ints reads -/
def bR (v : Value) : Option (DataW Unit × List MemPlace) := match v with
  | .bool x => some (.lit (.bool x), [])
  | _ => none
theorem bR_inv {v : Value} {x : Bool} {ps : List MemPlace} (h : bR v = some (.lit (.bool x), ps)) : v = .bool x := by
  cases v <;> simp [bR] at h
  rw [h.1]
theorem zeroB (w : World) : (zeroValue 4).run Tryd.prog w = .ok (.bool false) w := by kernel_rfl
theorem keyI (j : Nat) (hj : j ≤ 1000000) : keyOf Tryd.prog 3 (.int .i64 (j : Int)) = some (.int .i64 (j : Int)) := by
  refine Maps.keyOf_int_mk Tryd.underlying3 ?_
  simp [Lit.wf]
  exact ⟨Int.le_trans (show IntKind.i64.min ≤ 0 by decide) (Int.natCast_nonneg _), Int.le_trans (show (j : Int) ≤ 1000000 by omega) (by decide)⟩
theorem look_false {w : World} {b n : Nat} {D : DataW Unit} (h : w.ownsMap Tryd.prog 3 bR b n D) (j : Nat) (hj : j ≤ 1000000) (hx : D.atKey (.int .i64 (j : Int)) (.lit (.bool false)) = .lit (.bool false)) :
    (Instr.lookup 42 (.map (some b)) (.int .i64 (j : Int)) false).run Tryd.prog w = .ok (.bool false) w := by
  obtain ⟨v, ps, hrun, hv⟩ := h.lookup (Maps.int_keyed Tryd.underlying3) Tryd.underlying42 (zeroB w) (zd := .lit (.bool false)) (zp := []) rfl (keyI j hj)
  rw [hx] at hv
  obtain rfl := bR_inv hv
  exact hrun
/-- the set has no other offsets than those of tokens -/
def OnlyAt (l : List Lx.Tk) (D : DataW Unit) : Prop := ∀ x : Nat, (∀ t ∈ l, t.a ≠ (x : Int)) → D.atKey (.int .i64 (x : Int)) (.lit (.bool false)) = .lit (.bool false)
theorem OnlyAt.more {p : List Lx.Tk} {j : Nat} {t : Lx.Tk} {D : DataW Unit} {ja : Nat} (h : OnlyAt (p.take j) D) (ht : p[j]? = some t) (hja : t.a = (ja : Int)) : OnlyAt (p.take (j + 1)) (D.put (.int .i64 (ja : Int)) (.lit (.bool true))) := by
  intro x hx
  have hns := List.take_add_one (l := p) (i := j)
  rw [ht] at hns
  have hns' : p.take (j + 1) = p.take j ++ [t] := hns
  rw [Maps.atKey_put_other]
  · exact h x fun u hu => hx u (by rw [hns']; exact List.mem_append.2 (.inl hu))
  · intro e
    have hne := hx t (by rw [hns']; exact List.mem_append.2 (.inr (List.mem_singleton.2 rfl)))
    rw [hja] at hne
    injection e with _ e
    exact hne e.symm
theorem off_round {S : List Lx.B} {p : List Lx.Tk} (h2 : ∀ t ∈ p, Lx.TokOk S t ∧ ((0 : Nat) : Int) ≤ t.a) (h3 : p.Pairwise (fun x y => x.a < y.a)) {j : Nat} {t : Lx.Tk} (ht : p[j]? = some t) :
    Lx.TokOk S t ∧ ∃ t', (p ++ [(⟨5, ⟨#[]⟩, (S.length : Int)⟩ : Lx.Tk)])[j + 1]? = some t' ∧ t.a < t'.a := by
  have hok := (h2 t (List.mem_of_getElem? ht)).1
  have hj := (List.getElem?_eq_some_iff.1 ht).1
  refine ⟨hok, ?_⟩
  by_cases hl : j + 1 < p.length
  · refine ⟨p[j + 1], by rw [List.getElem?_append_left hl]; exact List.getElem?_eq_getElem hl, ?_⟩
    have := (List.pairwise_iff_getElem.1 h3) j (j + 1) hj hl (by omega)
    rw [(List.getElem?_eq_some_iff.1 ht).2] at this
    exact this
  · refine ⟨⟨5, ⟨#[]⟩, (S.length : Int)⟩, by rw [List.getElem?_append_right (by omega), show j + 1 - p.length = 0 by omega]; rfl, ?_⟩
    obtain ⟨i, h1, hi, _⟩ := hok.off
    show t.a < (S.length : Int)
    omega
set_option maxRecDepth 100000 in
set_option maxHeartbeats 8000000 in
theorem offsets_any (A : Option Addr) (c : Nat) (s : ByteArray) (w : World) (hc : s.size ≤ c) (hA : A = none → c = 0) (hs : s.size ≤ 140737488351232) (hS : Src w A s) (hT : Tab w) :
    Calls Tryd.prog 8 #[.slice A s.size c] w (LawOk w) := by
  have HSA := hide (sane_any w hT)
  obtain ⟨n, hn⟩ : ∃ n, s.size = n := ⟨_, rfl⟩
  rw [hn] at hc hs ⊢
  by_cases h1 : 3000 < n
  · have h' : (3000 : Int) < (n : Int) := by omega
    clear hT hS
    go_enter Tryd.func8, Tryd.ntmps8
    go_wp2_with fail
    refine (unhide HSA).mono ?_; rintro e w1 ⟨rfl, hb1⟩
    have HB1 := hide hb1
    clear hb1
    go_wp2_with fail
    go_ret
    exact ⟨rfl, unhide HB1⟩
  have h0 : ¬ (3000 : Int) < (n : Int) := by omega
  have htk := fun W (hB : Below w.heap.size w W) => tokens_src A n c s W hn (by omega) (hS.keep hB) (hT.keep hB)
  have hpl := Lx.scan_pl' (L s)
  have htl : (Lx.toks (L s)).1.length ≤ 2 * n + 1 := by obtain ⟨_, _, h⟩ := again_math (L s); have := Lx.wgt_len (Lx.toks (L s)).1; rw [L_len, hn] at h; omega
  obtain ⟨⟨p, hp, hp2, hp3, hbd⟩, hbs⟩ := Lx.toks_good (L s)
  generalize Lx.toks (L s) = T at htk hp hbd hbs hpl htl
  obtain ⟨T1, T2⟩ := T
  simp only at htk hp hbd hbs hpl htl
  obtain ⟨m, hm⟩ : ∃ m, p.length = m := ⟨_, rfl⟩
  obtain ⟨np, hnp⟩ : ∃ np, T2.length = np := ⟨_, rfl⟩
  obtain ⟨nt, hnt⟩ : ∃ nt, T1.length = nt := ⟨_, rfl⟩
  have hmt : nt = m + 1 := by rw [← hnt, hp, List.length_append, hm]; rfl
  have hcast : (nt : Int) - 1 = (m : Int) := by omega
  rw [L_len, hn] at hp hbd
  have hrd := fun j t (ht : p[j]? = some t) => off_round hp2 hp3 ht
  rw [L_len, hn] at hrd
  unfold TkEnd at htk
  rw [hnt, hnp] at htk
  rw [hnp] at hpl
  rw [hnt] at htl
  have hml : m ≤ 6000 := by omega
  have HTK := hide htk; have HRD := hide hrd; have HBD := hide hbd; have HBS := hide hbs; have HP := hide hp; have HM := hide hm; have HNP := hide hnp; have HS := hide hS; have HN := hide hn
  have hnt0 : ((nt : Int) == 0) = false := by rw [beq_eq_false_iff_ne]; omega
  have hnp64 : ¬ (64 : Int) < (np : Int) := by omega
  have hnp64' : decide ((64 : Int) < (np : Int)) = false := by rw [decide_eq_false_iff_not]; omega
  have hmnt : m < nt := by omega
  have hmm := @run_makeMap Tryd.prog
  have HMT := hide hmt
  have hm0 : (0 : Int) ≤ (m : Int) := Int.natCast_nonneg _
  clear htk hrd hbd hbs hp hm hnp hS hn hT hp2 hp3 hnt hmt
  go_enter Tryd.func8, Tryd.ntmps8
  go_wp2_with fail
  refine (unhide HSA).mono ?_; rintro e w1 ⟨rfl, hb1⟩
  have HB1 := hide hb1
  clear hb1
  go_wp2_with fail
  refine ((unhide HTK) _ (unhide HB1)).mono ?_; rintro e w2 ⟨A2, c2, B2, d2, rfl, hA2, hc2, _, hP2, hb2⟩
  have HB2 := hide (thenB (unhide HB1) hb2)
  have HP2 := hide hP2
  rw [unhide HP] at hA2
  obtain ⟨b2, o2, rfl, hlt2, hcl2⟩ := hA2.at_ (by simp)
  obtain ⟨l0, l1, l2⟩ := hcl2 m ⟨5, ⟨#[]⟩, (n : Int)⟩ (by rw [List.getElem?_append_right (by have := unhide HM; omega), unhide HM, Nat.sub_self]; rfl)
  simp only at l0 l1 l2
  have HC2 := hide hcl2
  have hss : w.heap.size ≤ w2.heap.size := (unhide HB2).size
  clear hb2 hP2 hA2 hcl2
  go_wp2_with fail
  go_loopw [7] (fun i wr => ∃ (j : Nat) (D : DataW Unit), j ≤ m ∧ i = .int .i64 (j : Int) ∧ Below w2.heap.size w2 wr ∧ wr.ownsMap Tryd.prog 3 bR w2.heap.size j D ∧ OnlyAt (p.take j) D) (fun i _ => m - (intOf i).toNat)
  case atStart => exact ⟨0, .map [], Nat.zero_le _, rfl, (Below.refl _ _).alloc (Nat.le_refl _) _, World.ownsMap_made w2 _ _ _, fun x _ => rfl⟩
  case round =>
    obtain ⟨j, D, hj, rfl, hb3, hown, honly⟩ := hrel
    by_cases hlt : j < m
    · obtain ⟨t, ht⟩ : ∃ t, p[j]? = some t := ⟨_, List.getElem?_eq_getElem (by have := unhide HM; omega)⟩
      obtain ⟨hok, t', ht', hlt'⟩ := (unhide HRD) j t ht
      obtain ⟨ja, hja, hjn, hk5, hk3, htx⟩ := hok.off
      rw [L_len, unhide HN] at hjn
      have htx2 : t.k ≠ 3 → t.t.size ≠ 0 ∧ ja + t.t.size ≤ n ∧ s.extract ja (ja + t.t.size) = t.t := fun h => by
        obtain ⟨g1, g2, g3⟩ := htx h
        have e : t.t.data.toList.length = t.t.size := by simp
        rw [e] at g2 g3
        refine ⟨fun e0 => g1 (List.eq_nil_iff_length_eq_zero.2 (e.trans e0)), by have := L_len s; have := unhide HN; omega, ?_⟩
        rw [ext_take, ← g3]
      clear htx
      have hkb := hb3.block b2 hlt2
      obtain ⟨d0, d1, d2'⟩ := (unhide HC2) j t (by rw [List.getElem?_append_left (by have := unhide HM; omega)]; exact ht)
      obtain ⟨_, _, e2⟩ := (unhide HC2) (j + 1) t' ht'
      rw [← cell_block hkb] at d0 d1 d2' e2
      have hmore := honly.more ht hja
      obtain ⟨b, o, rfl, hbl, hcl⟩ := (unhide HS).cell (by have := unhide HN; omega)
      obtain ⟨tk, ts, ta⟩ := t
      obtain ⟨tk', ts', ta'⟩ := t'
      simp only at hja d0 d1 d2' e2 hlt' hk5 hk3 htx2
      subst hja
      have q1 : decide ((ja : Int) < 0) = false := by rw [decide_eq_false_iff_not]; omega
      have q2 : decide ((n : Int) ≤ (ja : Int)) = false := by rw [decide_eq_false_iff_not]; omega
      have q3 : decide (ta' ≤ (ja : Int)) = false := by rw [decide_eq_false_iff_not]; omega
      have q4 : (tk == 5) = false := by rw [beq_eq_false_iff_ne]; exact hk5
      have hsw : w2.heap.size < wr.heap.size := hown.lt
      obtain ⟨j1, hj1⟩ : ∃ j1, j1 = j + 1 := ⟨_, rfl⟩
      rw [← hj1] at e2
      have e2a := (cell_block (((Below.refl wr.heap.size wr).alloc (Nat.le_refl _) (.cells #[.int .i64 tk, .string ts, .int .i64 (ja : Int)] 41)).block b2 (by omega))).trans e2
      have hb2r : b2 < wr.heap.size := by omega
      have hcj : (j : Int) + 1 = (j1 : Int) := by omega
      have hj1n : (j1 : Int) < (nt : Int) := by omega
      have hj1m : j1 < nt := by omega
      have hj1b : j1 ≤ m := by omega
      have hj1c : j1 ≤ 6001 := by omega
      have hj1d : (j1 : Int) ≤ 6001 := by omega
      have hwj : IntKind.i64.wrap (j1 : Int) = (j1 : Int) := wrapN _ (by omega) (by omega)
      have q2n : decide (n ≤ ja) = false := by rw [decide_eq_false_iff_not]; omega
      have HJ1 := hide hj1
      clear hj1
      have HO := hide (hown.alloc (.cells #[.int .i64 tk, .string ts, .int .i64 (ja : Int)] 41)); have HB3 := hide hb3; have HMO := hide hmore; have HK3 := hide hk3; have HTX := hide htx2; have HCL := hide hcl
      clear hown hb3 hmore honly hok ht ht' hk5 hk3 htx2 hcl hkb
      go_wp2_with fail
      go_quiet (fail)
      go_wp2_with (at_mapUpdate; refine wpList_mapUpdate_own _ rfl _ _ _ 42 rfl 3 4 (Maps.int_keyed Tryd.underlying3) Tryd.underlying42 bR w2.heap.size j D rfl (unhide HO) (by unfold maxLen; omega) _ _ _ rfl rfl (keyI ja (by omega)) _ [] (show bR (.bool true) = some (.lit (.bool true), []) from rfl) ?_)
      intro w3 hown3 hgrow3
      have kt : w3.heap[wr.heap.size]? = (wr.alloc (.cells #[.int .i64 tk, .string ts, .int .i64 (ja : Int)] 41)).heap[wr.heap.size]? := hgrow3.block wr.heap.size (by show wr.heap.size < (wr.alloc _).heap.size; simp) (fun e => by injection e with e; omega)
      have f0 : w3.cell? ⟨wr.heap.size, 0, none⟩ = some (.int .i64 tk) := (cell_block kt).trans (by go_simp)
      have f1 : w3.cell? ⟨wr.heap.size, 1, none⟩ = some (.string ts) := (cell_block kt).trans (by go_simp)
      have f2 : w3.cell? ⟨wr.heap.size, 2, none⟩ = some (.int .i64 (ja : Int)) := (cell_block kt).trans (by go_simp)
      have hb4 : Below w2.heap.size w2 w3 := by
        have h1 := (unhide HB3).alloc (unhide HB3).size (.cells #[.int .i64 tk, .string ts, .int .i64 (ja : Int)] 41)
        have h2 : Below w2.heap.size w2 ((wr.alloc (.cells #[.int .i64 tk, .string ts, .int .i64 (ja : Int)] 41)).drewN nq) := h1.trans ⟨rfl, rfl, rfl, Nat.le_refl _, fun _ _ => rfl⟩
        exact h2.grown hgrow3 (by show w2.heap.size ≤ (wr.alloc _).heap.size; simp; omega) (fun k hk => by injection hk with hk; omega)
      have hcs := (cell_block (hb4.block b (Nat.lt_of_lt_of_le hbl hss))).trans ((cell_block ((unhide HB2).block b hbl)).trans ((unhide HCL) ja (by have := unhide HN; omega)))
      have HO3 := hide hown3; have HB4 := hide hb4
      clear hown3 hgrow3 kt hb4
      by_cases h3 : tk = 3
      · subst h3
        have h34 := (unhide HK3) rfl
        rw [L_getD s ja (by have := unhide HN; omega)] at h34
        have q5 : ((s[ja]'(by have := unhide HN; omega)).toNat : Int) = 34 := by rw [h34]; rfl
        rw [q5] at hcs
        clear h34 q5
        go_wp2_with fail
        go_roundw
        case rel => exact ⟨j1, _, hj1b, by first | rfl | go_num, unhide HB4, by rw [unhide HJ1]; exact unhide HO3, by rw [unhide HJ1]; exact unhide HMO⟩
        case measure => have := unhide HJ1; simp [intOf]; omega
      · have q5 : (tk == 3) = false := by rw [beq_eq_false_iff_ne]; exact h3
        obtain ⟨g1, g2, g3⟩ := (unhide HTX) h3
        have q6 : decide ((n : Int) < (ja : Int) + (ts.size : Int)) = false := by rw [decide_eq_false_iff_not]; omega
        have htl' : ¬ ts.toList = [] := by
          rw [L_toList]
          intro e
          have := congrArg List.length e
          rw [L_len] at this
          exact g1 this
        have hxn : ¬ ts = ⟨#[]⟩ := fun e => g1 (by rw [e]; rfl)
        have hte : ts.toList.isEmpty = false := by simpa using htl'
        have hcv := fun nn => src_sub (w := World.drewN w3 nn) (((unhide HS).keep (unhide HB2)).keep ((unhide HB4).trans ⟨rfl, rfl, rfl, Nat.le_refl _, fun _ _ => rfl⟩ : Below w2.heap.size w2 (World.drewN w3 nn))) ja ts.size (by have := unhide HN; omega)
        simp only [g3] at hcv
        have htsz : ts.size ≤ 3000 := by omega
        have q6n : decide (n < ja + ts.size) = false := by rw [decide_eq_false_iff_not]; omega
        have hwt : IntKind.i64.wrap ((ja : Int) + (ts.size : Int)) = (ja : Int) + (ts.size : Int) := wrapN _ (by omega) (by omega)
        have htc : ja + ts.size ≤ c := by omega
        have htc' : (ja : Int) + (ts.size : Int) ≤ (c : Int) := by omega
        have htj : (ja : Int) ≤ (ja : Int) + (ts.size : Int) := by omega
        clear h3 g1 g3
        go_wp2_with fail
        go_quiet (fail)
        go_wp2_with fail
        go_roundw
        case rel => exact ⟨j1, _, hj1b, by first | rfl | go_num, (unhide HB4).trans ⟨rfl, rfl, rfl, Nat.le_refl _, fun _ _ => rfl⟩, by rw [unhide HJ1]; exact unhide HO3, by rw [unhide HJ1]; exact unhide HMO⟩
        case measure => have := unhide HJ1; simp [intOf]; omega
    · obtain rfl : j = m := by omega
      rw [List.take_of_length_le (by have := unhide HM; omega)] at honly
      have HO := hide hown; have HB3 := hide hb3; have HOA := hide honly
      clear hown hb3 honly
      go_wp2_with fail
      go_loopw [9] (fun i wx => ∃ q : Nat, q ≤ np ∧ i = .int .i64 (q : Int) ∧ Below w2.heap.size w2 wx ∧ wx.ownsMap Tryd.prog 3 bR w2.heap.size j D) (fun i _ => np - (intOf i).toNat)
      case atStart => exact ⟨0, Nat.zero_le _, rfl, unhide HB3, unhide HO⟩
      case round =>
        obtain ⟨q, hq, rfl, hb4, hown4⟩ := hrel
        by_cases hlq : q < np
        · obtain ⟨x, hx⟩ : ∃ x, T2[q]? = some x := ⟨_, List.getElem?_eq_getElem (by have := unhide HNP; omega)⟩
          obtain ⟨g1, g2, g3⟩ := (unhide HBD) x (List.mem_of_getElem? hx)
          obtain ⟨xj, rfl⟩ := Int.eq_ofNat_of_zero_le (by simpa using g1 : 0 ≤ x)
          obtain ⟨b3, o3, rfl, hlt3, hcl3⟩ := ((unhide HP2).keep hb4).at_ (List.ne_nil_of_length_pos (by have := unhide HNP; omega))
          obtain ⟨p0, p1⟩ := hcl3 q _ hx
          have hlk := fun nn => look_false (w := World.drewN _ nn) hown4 xj (by omega) ((unhide HOA) xj g3)
          have q1 : decide ((xj : Int) < 0) = false := by rw [decide_eq_false_iff_not]; omega
          have q2 : decide ((n : Int) ≤ (xj : Int)) = false := by rw [decide_eq_false_iff_not]; omega
          have q2n : xj < n := by omega
          have q2' : ¬ (n : Int) ≤ (xj : Int) := by omega
          have q2d : decide (n ≤ xj) = false := by rw [decide_eq_false_iff_not]; omega
          have HB4 := hide hb4; have HO4 := hide hown4
          by_cases hq0 : q = 0
          · subst hq0
            rw [Nat.zero_mul, Nat.add_zero] at p0 p1
            have q3 : decide ((0 : Int) < ((0 : Nat) : Int)) = false := by decide
            clear hx g1 g3 hcl3 hb4 hown4
            go_wp2_with fail
            go_quiet (fail)
            go_wp2_with fail
            go_roundw
            case rel => exact ⟨0 + 1, by omega, by go_num, (unhide HB4).trans ⟨rfl, rfl, rfl, Nat.le_refl _, fun _ _ => rfl⟩, unhide HO4⟩
            case measure => simp [intOf]; omega
          · obtain ⟨q', hqq⟩ : ∃ q', q = q' + 1 := ⟨q - 1, by omega⟩
            obtain ⟨y, hy⟩ : ∃ y, T2[q']? = some y := ⟨_, List.getElem?_eq_getElem (by have := unhide HNP; omega)⟩
            obtain ⟨r0, r1⟩ := hcl3 q' _ hy
            have hyx : y < (xj : Int) := by
              have := (List.pairwise_iff_getElem.1 (unhide HBS)) q' q (by have := unhide HNP; omega) (by have := unhide HNP; omega) (by omega)
              rw [(List.getElem?_eq_some_iff.1 hy).2, (List.getElem?_eq_some_iff.1 hx).2] at this
              exact this
            have hcast2 : (q : Int) - 1 = (q' : Int) := by omega
            have q3 : decide ((0 : Int) < (q : Int)) = true := by rw [decide_eq_true_iff]; omega
            have q3n : decide (0 < q) = true := by rw [decide_eq_true_iff]; omega
            have hwq : IntKind.i64.wrap (q' : Int) = (q' : Int) := wrapN _ (by omega) (by omega)
            have q4 : decide ((xj : Int) ≤ y) = false := by rw [decide_eq_false_iff_not]; omega
            have hq1 : q' < np := by omega
            have hq1n : (q' : Int) < (np : Int) := by omega
            clear hx hy g1 g3 hcl3 hb4 hown4 hqq
            go_wp2_with fail
            go_quiet (fail)
            go_wp2_with fail
            go_roundw
            case rel => exact ⟨q + 1, by omega, by go_num, (unhide HB4).trans ⟨rfl, rfl, rfl, Nat.le_refl _, fun _ _ => rfl⟩, unhide HO4⟩
            case measure => simp [intOf]; omega
        · have HB5 := hide (thenB (unhide HB2) hb4)
          clear hb4 hown4
          go_wp2_with fail
          go_ret
          exact ⟨rfl, unhide HB5⟩
end Go.Proofs.YtjppjbkndfbnhaaDoor
