/- Contracts over the program of lexis: Join. -/
import Derived.Test.YtjppjbkndfbnhaaDoorLexK
namespace Go.Proofs.YtjppjbkndfbnhaaDoor
set_option linter.unusedSimpArgs false
set_option linter.unusedVariables false
open Go.RowKit

/-- how Join ends -/
def JoinIs (l : List Lx.Tk) (w : World) (e : Ending) (w' : World) : Prop :=
  Below w.heap.size w w' ∧ match Lx.joinR l with
    | some b => ∃ v, e = .returned (.tuple #[v, .int .i64 0]) ∧ OwnB w' w.heap.size v b
    | none => e = .returned (.tuple #[.slice none 0 0, .int .i64 1])
theorem join_none {l : List Lx.Tk} {w w' : World} (h : Lx.joinR l = none) (hb : Below w.heap.size w w') : JoinIs l w (.returned (.tuple #[.slice none 0 0, .int .i64 1])) w' := by
  refine ⟨hb, ?_⟩
  rw [h]
theorem join_some {l : List Lx.Tk} {b : List Lx.B} {v : Value} {w w' : World} (h : Lx.joinR l = some b) (hb : Below w.heap.size w w') (ho : OwnB w' w.heap.size v b) : JoinIs l w (.returned (.tuple #[v, .int .i64 0])) w' := by
  refine ⟨hb, ?_⟩
  rw [h]
  exact ⟨v, rfl, ho⟩
theorem joinR_snoc (p : List Lx.Tk) (t : Lx.Tk) : Lx.joinR (p ++ [t]) = if Lx.endP t = true ∧ p.all Lx.fitP = true then some (Lx.joinL p) else none := by
  unfold Lx.joinR
  simp
theorem own_slice {w : World} {B : Nat} {v : Value} {l : List Lx.B} (h : OwnB w B v l) : ∃ A c, v = .slice A l.length c := by
  rcases h.2 with ⟨h1, h0⟩ | ⟨g, cap, cur, h1, _⟩
  · exact ⟨none, 0, by rw [h1, h0]⟩
  · exact ⟨_, cap, h1⟩
set_option maxRecDepth 100000 in
set_option maxHeartbeats 4000000 in
theorem join_nil (A : Option Addr) (c : Nat) (w : World) : Calls Tryd.prog 17 #[.slice A 0 c] w (JoinIs [] w) := by
  go_enter Tryd.func17, Tryd.ntmps17
  go_wp2_with fail
  go_ret2
  exact join_none rfl (Below.refl _ _)
set_option maxRecDepth 100000 in
set_option maxHeartbeats 4000000 in
theorem join_snoc (A : Option Addr) (c n m : Nat) (p : List Lx.Tk) (t : Lx.Tk) (w : World) (hm : p.length = m) (hn : n = m + 1) (hA : TkAt w A (p ++ [t])) (hT : Tab w) (hw : Lx.wgt (p ++ [t]) ≤ 20000) (hc : n ≤ c) :
    Calls Tryd.prog 17 #[.slice A n c] w (JoinIs (p ++ [t]) w) := by
  have hwp : Lx.wgt p ≤ 20000 := by rw [Lx.wgt_append] at hw; omega
  have hml : m ≤ 20000 := by have := Lx.wgt_len p; omega
  have hsz : ∀ x ∈ p, x.t.size ≤ 20000 := fun x hx => Nat.le_trans (Lx.wgt_mem hx) hwp
  obtain ⟨bb, o, rfl, hbl, hcl⟩ := hA.at_ (by simp)
  have hcm := hcl m t (by rw [List.getElem?_append_right (by omega)]; simp [hm])
  obtain ⟨c0, c1, c2⟩ := hcm
  have hAp : TkAt w (some ⟨bb, o, none⟩) p := by
    have := hA.take m
    rwa [List.take_left' hm] at this
  have hcast : ((n : Nat) : Int) - 1 = (m : Int) := by omega
  have hjr := joinR_snoc p t
  have hcon := contains_any (some ⟨bb, o, none⟩) c m p w hm hAp hT (by omega) (fun x hx => Nat.le_trans (hsz x hx) (by decide))
  have HCO := hide hcon; have HA := hide hAp; have HT := hide hT; have HSZ := hide hsz; have HWP := hide hwp; have HM := hide hm; have HN := hide hn; have HJ := hide hjr
  have hmn : m < n := by omega
  have hm0 : (0 : Int) ≤ (m : Int) := Int.natCast_nonneg _
  clear hcon hAp hT hsz hwp hm hn hjr hcl hA hw
  obtain ⟨tk, ts, ta⟩ := t
  simp only at c0 c1 c2
  by_cases h5 : tk = 5
  · have k5 : (tk != 5) = false := by rw [h5]; rfl
    by_cases hts : ts.size = 0
    · have hep : Lx.endP ⟨tk, ts, ta⟩ = true := by unfold Lx.endP; rw [h5, hts]; rfl
      have htl : ts.toList = [] := by rw [L_toList]; exact List.eq_nil_iff_length_eq_zero.2 (by rw [L_len]; exact hts)
      have HEP := hide hep
      have HTL := hide htl
      clear hep
      cases hall : p.all Lx.fitP
      · have hno : Lx.joinR (p ++ [⟨tk, ts, ta⟩]) = none := by rw [unhide HJ, if_neg]; rintro ⟨_, h⟩; rw [hall] at h; cases h
        have HNO := hide hno; have HALL := hide hall
        clear hno hall h5
        go_enter Tryd.func17, Tryd.ntmps17
        go_wp2_with fail
        refine (unhide HCO).mono ?_; rintro e w1 ⟨rfl, hb1⟩
        rw [unhide HALL]
        have HB1 := hide hb1
        clear hb1
        go_wp2_with fail
        go_ret2
        exact join_none (unhide HNO) (unhide HB1)
      · have hyes : Lx.joinR (p ++ [⟨tk, ts, ta⟩]) = some (Lx.joinL p) := by rw [unhide HJ, if_pos ⟨unhide HEP, hall⟩]
        have HYES := hide hyes; have HALL := hide hall
        have dneg : decide ((m : Int) < 0) = false := by rw [decide_eq_false_iff_not]; omega
        clear hyes hall h5
        go_enter Tryd.func17, Tryd.ntmps17
        go_wp2_with fail
        refine (unhide HCO).mono ?_; rintro e w1 ⟨rfl, hb1⟩
        rw [unhide HALL]
        have HB1 := hide hb1
        clear hb1
        go_wp2_with fail
        go_loopw [2, 36] (fun v i wr => ∃ k : Nat, k ≤ m ∧ i = .int .i64 (k : Int) ∧ OwnB wr w.heap.size v (Lx.joinL (p.take k)) ∧ Below w.heap.size w wr) (fun _ i _ => m - (intOf i).toNat)
        case atStart => exact ⟨0, Nat.zero_le _, rfl, (World.ownsRow_nil _ _ _ _ : World.ownsRow _ _ _ _ _ 0 []), unhide HB1⟩
        case round =>
          obtain ⟨k, hk, rfl, hown, hb⟩ := hrel
          by_cases hlt : k < m
          · obtain ⟨t, ht⟩ : ∃ t, p[k]? = some t := ⟨_, List.getElem?_eq_getElem (by have := unhide HM; omega)⟩
            obtain ⟨bb', o', e', hbl', hc'⟩ := ((unhide HA).keep hb).at_ (List.ne_nil_of_length_pos (by have := unhide HM; omega))
            obtain ⟨rfl, rfl⟩ : bb = bb' ∧ o = o' := by injection e' with e'; injection e' with e1 e2 e3; exact ⟨e1, e2⟩
            obtain ⟨d0, d1, d2⟩ := hc' k t ht
            have hts' := (unhide HSZ) t (List.mem_of_getElem? ht)
            have hns := List.take_add_one (l := p) (i := k)
            rw [ht] at hns
            have hsn := Lx.joinL_snoc (p.take k) t
            have hln := Lx.joinL_len (p.take k)
            have hln2 := Lx.joinL_len (p.take (k + 1))
            have hwt := Lx.wgt_take p k
            have hwt2 := Lx.wgt_take p (k + 1)
            have hwpp := unhide HWP
            have hlen1 : (Lx.joinL (p.take k)).length ≤ 60000 := by omega
            have hlen2 : (Lx.joinL (p.take (k + 1))).length ≤ 60000 := by omega
            have hne : (p.take k = []) ↔ k = 0 := by
              rw [List.take_eq_nil_iff]
              constructor
              · rintro (h | h)
                · exact h
                · rw [h] at ht; simp at ht
              · exact .inl
            rw [show p.take (k + 1) = p.take k ++ [t] from hns, hsn] at hlen2
            have hwr : w.heap.size ≤ wr.heap.size := hb.size
            have HOWN := hide hown; have HB := hide hb; have HNS := hide hns; have HSN := hide hsn; have HL1 := hide hlen1; have HL2 := hide hlen2; have HNE := hide hne
            clear hown hb hns hsn hlen1 hlen2 hne hc' e' ht hln hln2 hwt hwt2 hwpp
            obtain ⟨xk, xs, xa⟩ := t
            simp only at d0 d1 d2 hts'
            have hfin : ∀ v2 w2, OwnB w2 w.heap.size v2 (Lx.joinL (p.take k) ++ ((if p.take k = [] then [] else [32]) ++ Lx.outT ⟨xk, xs, xa⟩)) → OwnB w2 w.heap.size v2 (Lx.joinL (p.take (k + 1))) := fun v2 w2 h => by
              rw [show p.take (k + 1) = p.take k ++ [⟨xk, xs, xa⟩] from unhide HNS, unhide HSN]; exact h
            have HFIN := hide hfin
            clear hfin
            by_cases h0 : k = 0
            · subst h0
              simp only [Nat.zero_mul, Nat.add_zero] at d0 d1 d2
              have hap := fun (v : Value) (bs : List Lx.B) (W : World) (hO : OwnB W w.heap.size v bs) (hB : w.heap.size ≤ W.heap.size) (hl : bs.length ≤ 1000000) => appTok_any w.heap.size v bs ⟨xk, xs, xa⟩ W hO hB hl (by simp only; omega)
              have HAP := hide hap
              clear hap
              go_wp2_with fail
              refine ((unhide HAP) _ _ _ (World.ownsRow.alloc (unhide HOWN) _) (by simp; omega) (by have := unhide HL1; omega)).mono ?_; rintro e w2 ⟨v2, rfl, hO2, hb2⟩
              have hO3 := (unhide HFIN) v2 w2 (by rw [if_pos (show p.take 0 = [] by simp), List.nil_append]; exact hO2)
              obtain ⟨A2, c2', rfl⟩ := own_slice hO3
              have hl3 : (Lx.joinL (p.take (0 + 1))).length ≤ 60000 := by rw [show p.take (0 + 1) = p.take 0 ++ [⟨xk, xs, xa⟩] from unhide HNS, unhide HSN]; exact unhide HL2
              have HO3 := hide hO3
              have HB2 := hide (((unhide HB).alloc hwr _).trans hb2)
              clear hO2 hb2 hO3
              obtain ⟨n2, hn2⟩ : ∃ n2, n2 = (Lx.joinL (p.take (0 + 1))).length := ⟨_, rfl⟩
              rw [← hn2] at hl3 HO3 ⊢
              have HN2 := hide hn2
              clear hn2
              have hn2i : (n2 : Int) ≤ 65536 := by omega
              go_wp2_with fail
              go_roundw
              case rel => exact ⟨0 + 1, by omega, by go_num, unhide HO3, unhide HB2⟩
              case measure => simp [intOf]; omega
            · have k0 : (0 : Int) < (k : Int) := by omega
              have hap := fun (v : Value) (bs : List Lx.B) (W : World) (hO : OwnB W w.heap.size v bs) (hB : w.heap.size ≤ W.heap.size) (hl : bs.length ≤ 1000000) => appTok_any w.heap.size v bs ⟨xk, xs, xa⟩ W hO hB hl (by simp only; omega)
              have HAP := hide hap
              clear hap
              go_wp2_with (at_builtin; refine wpList_appB rfl _ _ rfl w.heap.size _ (Lx.joinL (p.take k)) [32] (wr.heap.size + 1) 1 1 rfl rfl rfl (World.ownsRow.alloc (World.ownsRow.alloc (unhide HOWN) _) _) (oneB ?c1) ?c3 ?c4 ?_)
              case c1 => go_simp
              case c3 => have := unhide HL1; simp only [List.length_cons, List.length_nil]; omega
              case c4 => simp; omega
              intro v1 w1' hown hgrow
              have kbx : w1'.heap[wr.heap.size]? = (wr.alloc (.cells #[.int .i64 xk, .string xs, .int .i64 xa] 41)).heap[wr.heap.size]? := by
                rw [hgrow.block wr.heap.size (by simp; omega) (fun e => by have := (World.ownsRow.lt (unhide HOWN) _ e.symm).2; omega)]
                exact Below.heap_alloc _ _ _ (by simp)
              have e0 : w1'.cell? ⟨wr.heap.size, 0, none⟩ = some (.int .i64 xk) := (World.cell?_of_block kbx).trans (by go_simp)
              have e1 : w1'.cell? ⟨wr.heap.size, 1, none⟩ = some (.string xs) := (World.cell?_of_block kbx).trans (by go_simp)
              have e2 : w1'.cell? ⟨wr.heap.size, 2, none⟩ = some (.int .i64 xa) := (World.cell?_of_block kbx).trans (by go_simp)
              have hsz1 := hgrow.size
              simp only [World.size_alloc] at hsz1
              have HO1 := hide hown
              have HB1' := hide (((((unhide HB).alloc hwr _).alloc (by simp; omega) _)).grown hgrow (by simp; omega) (own_lt (unhide HOWN)))
              have hsw : w.heap.size ≤ w1'.heap.size := by omega
              clear hown hgrow kbx hsz1
              go_wp2_with fail
              refine ((unhide HAP) _ _ _ (unhide HO1) hsw (by have := unhide HL1; simp only [List.length_append, List.length_cons, List.length_nil]; omega)).mono ?_; rintro e w2 ⟨v2, rfl, hO2, hb2⟩
              have hO3 := (unhide HFIN) v2 w2 (by rw [if_neg (fun e => h0 ((unhide HNE).1 e)), ← List.append_assoc]; exact hO2)
              obtain ⟨A2, c2', rfl⟩ := own_slice hO3
              have hl3 : (Lx.joinL (p.take (k + 1))).length ≤ 60000 := by rw [show p.take (k + 1) = p.take k ++ [⟨xk, xs, xa⟩] from unhide HNS, unhide HSN]; exact unhide HL2
              have HO3 := hide hO3
              have HB2 := hide ((unhide HB1').trans hb2)
              clear hO2 hb2 hO3
              obtain ⟨n2, hn2⟩ : ∃ n2, n2 = (Lx.joinL (p.take (k + 1))).length := ⟨_, rfl⟩
              rw [← hn2] at hl3 HO3 ⊢
              have HN2 := hide hn2
              clear hn2
              have hn2i : (n2 : Int) ≤ 65536 := by omega
              go_wp2_with fail
              go_roundw
              case rel => exact ⟨k + 1, by omega, by go_num, unhide HO3, unhide HB2⟩
              case measure => simp [intOf]; omega
          · rw [List.take_of_length_le (by have := unhide HM; omega)] at hown
            have HOWN := hide hown; have HB := hide hb
            clear hown hb
            go_wp2_with fail
            go_ret2
            exact join_some (unhide HYES) (unhide HB) (unhide HOWN)
    · have hno : Lx.joinR (p ++ [⟨tk, ts, ta⟩]) = none := by
        rw [unhide HJ, if_neg]
        rintro ⟨h, _⟩
        unfold Lx.endP at h
        simp at h
        exact hts (by simpa using h.2)
      have htl : ¬ ts.toList = [] := by
        rw [L_toList]
        intro e
        have := congrArg List.length e
        rw [L_len] at this
        exact hts this
      have htb : (!ts.toList.isEmpty) = true := by simpa using htl
      have HNO := hide hno
      clear hno h5
      go_enter Tryd.func17, Tryd.ntmps17
      go_wp2_with fail
      go_ret2
      exact join_none (unhide HNO) (Below.refl _ _)
  · have hno : Lx.joinR (p ++ [⟨tk, ts, ta⟩]) = none := by
      rw [unhide HJ, if_neg]
      rintro ⟨h, _⟩
      unfold Lx.endP at h
      simp at h
      exact h5 h.1
    have k5 : (tk != 5) = true := by rw [bne_iff_ne]; exact h5
    have HNO := hide hno
    clear hno h5
    go_enter Tryd.func17, Tryd.ntmps17
    go_wp2_with fail
    go_ret2
    exact join_none (unhide HNO) (Below.refl _ _)
theorem join_any (A : Option Addr) (c n : Nat) (l : List Lx.Tk) (w : World) (hn : l.length = n) (hA : TkAt w A l) (hT : Tab w) (hw : Lx.wgt l ≤ 20000) (hc : n ≤ c) :
    Calls Tryd.prog 17 #[.slice A n c] w (JoinIs l w) := by
  rcases List.eq_nil_or_concat l with rfl | ⟨p, t, rfl⟩
  · subst hn
    exact join_nil A c w
  · rw [List.concat_eq_append] at *
    exact join_snoc A c n p.length p t w rfl (by rw [← hn, List.length_append]; rfl) hA hT hw hc
end Go.Proofs.YtjppjbkndfbnhaaDoor
