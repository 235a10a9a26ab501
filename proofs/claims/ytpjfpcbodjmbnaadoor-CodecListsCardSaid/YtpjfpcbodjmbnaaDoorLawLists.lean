/- The law CodecLists returns true for all lists of values. -/
import Derived.Test.YtpjfpcbodjmbnaaDoorCodLaw
namespace Go.Proofs.YtpjfpcbodjmbnaaDoor
set_option linter.unusedSimpArgs false
set_option linter.unusedVariables false
open Go.RowKit Go.LawClose

/-- bytes that the call has made, to which it appends: a row of its own, or the marked row of one byte of a literal -/
def OwnB (w : World) (base : Nat) (bv : Value) (l : List UInt8) : Prop :=
  w.ownsRow base 5 1 bv l.length (Lib.byteCells l) ∨ ∃ g b, bv = .slice (some ⟨g, 0, none⟩) 1 1 ∧ base ≤ g ∧ g < w.heap.size ∧ l = [b] ∧ w.cell? ⟨g, 0, none⟩ = some (.int .u8 (b.toNat : Int))
theorem OwnB.lt {w : World} {base : Nat} {bv : Value} {l : List UInt8} (h : OwnB w base bv l) : ∀ k, bv.ownBlock = some k → base ≤ k ∧ k < w.heap.size := by
  rcases h with h | ⟨g, b, rfl, hg, hlt, _⟩
  · exact h.lt
  · intro k hk
    simp [Value.ownBlock] at hk
    subst hk
    exact ⟨hg, hlt⟩
theorem OwnB.at {w : World} {base : Nat} {bv : Value} {l : List UInt8} (h : OwnB w base bv l) : BAt w bv l := by
  rcases h with h | ⟨g, b, rfl, hg, hlt, rfl, hc⟩
  · exact BAt.own h
  · refine ⟨some ⟨g, 0, none⟩, 1, rfl, .inr ⟨g, 0, rfl, hlt⟩, Nat.le_refl _, by decide, fun i u hi => ⟨g, 0, rfl, ?_⟩⟩
    match i, hi with
    | 0, hi => simp at hi; subst hi; exact hc
    | i + 1, hi => simp at hi
theorem OwnB.later {w W : World} {base : Nat} {bv : Value} {l : List UInt8} (h : OwnB w base bv l) (hb : Below w.heap.size w W) : OwnB W base bv l := by
  rcases h with h | ⟨g, b, rfl, hg, hlt, rfl, hc⟩
  · exact .inl (ownsOn h hb)
  · exact .inr ⟨g, b, rfl, hg, Nat.lt_of_lt_of_le hlt hb.size, rfl, (hb.cell (p := ⟨g, 0, none⟩) hlt).trans hc⟩
theorem run_append_B {w : World} {base : Nat} {bv : Value} {l : List UInt8} (h : OwnB w base bv l) (ty : TypeId) (a : Addr) (m c : Nat) (news : List Value) (hl : news.length = m) (hm : 1 ≤ m) (hnews : ∀ j u, news[j]? = some u → w.cell? (a.add j) = some u) (h1 : ∀ u ∈ news, u.oneCell' = true)
    (h63 : l.length + m ≤ 1000000000) (hbase : base ≤ w.heap.size) :
    ∃ v' w', (Builtin.append_ #[28, 28] ty #[bv, .slice (some a) m c]).run Tryd.prog w = .ok v' w' ∧ w'.ownsRow base 5 1 v' (l.length + m) (Lib.byteCells l ++ news) ∧ w.grownBy w' bv.ownBlock := by
  obtain ⟨i0, hi, hz0, hz1, hz2⟩ := info_parts infoByte
  rcases h with h | ⟨g, b, rfl, hg, hlt, rfl, hc⟩
  · obtain ⟨v', w', hr, h2, h3, _, _⟩ := run_append_own_at (P := Tryd.prog) w base 28 ty 5 i0 (.int .u8 0) 1 1 Tryd.underlying28 hi hz0 hz1 hz2 rfl (by decide) bv l.length (Lib.byteCells l) h a m c news (by omega) hnews h1 (by unfold maxLen; omega) (by omega) hbase
    exact ⟨v', w', hr, h2, h3⟩
  · have hr := run_append_grow (P := Tryd.prog) w 28 ty 5 i0 (.int .u8 0) Tryd.underlying28 hi hz0 ⟨g, 0, none⟩ 1 1 [.int .u8 (b.toNat : Int)] (by rw [hz1]; rfl) (fun j v hj => by
      match j, hj with
      | 0, hj => simp at hj; subst hj; exact hc
      | j + 1, hj => simp at hj) a m c news (by rw [hz1]; omega) hnews (by omega) (by omega) (growslice_fits (by omega) (by rw [hz2]; omega))
    have hge := grownCap_ge w (1 + m) 1 5
    have hcm : grownCap w (1 + m) 1 5 ≤ maxLen := grownCap_le_maxLen w (1 + m) 1 5 (by unfold maxLen; omega)
    have hlen : (Lib.byteCells [b] ++ news).length = (1 + m) * 1 := by simp [Lib.byteCells]; omega
    refine ⟨_, _, hr, ⟨hlen, .inr ⟨w.heap.size, _, _, rfl, hbase, heap_alloc_new w.drew _, hge, hcm, ?_, ?_⟩⟩, ⟨rfl, rfl, rfl, by simp, fun k hk _ => heap_alloc_old w.drew _ hk⟩⟩
    · simp only [Array.size_append, List.size_toArray, size_zeroCells, List.length_cons, List.length_nil]
      have : (Value.cells (.int .u8 0)).size = 1 := rfl
      rw [this]
      omega
    · have hl2 : (([b] : List UInt8).length + m) * 1 = (Lib.byteCells [b] ++ news).length := by rw [hlen]; rfl
      rw [hl2]
      simp only [Array.toList_append, List.append_assoc]
      rw [← List.append_assoc]
      exact List.take_left
theorem wpList_append_B {ops : Array Oper} {rest : List Oper} {o : Oper} {a : Act} {Q : Exit → Act → World → Prop} {w : World} (hgd : o.guard = none) (s x : Operand)
    (ho : o.op = .call { callee := .builtin .append, args := #[s, x], argTypes := #[28, 28] })
    (base : Nat) (v : Value) (l : List UInt8) (hs : a.eval s = v) (hown : OwnB w base v l)
    (ad : Addr) (m c : Nat) (news : List Value) (hx : a.eval x = .slice (some ad) m c) (hl : news.length = m) (hm : 1 ≤ m) (hnews : ∀ j u, news[j]? = some u → w.cell? (ad.add j) = some u) (h1 : ∀ u ∈ news, u.oneCell' = true)
    (h63 : l.length + m ≤ 1000000000) (hbase : base ≤ w.heap.size)
    (h : ∀ v' w', w'.ownsRow base 5 1 v' (l.length + m) (Lib.byteCells l ++ news) → w.grownBy w' v.ownBlock → wpList Tryd.prog ops Q rest (a.put o.dst v') w') :
    wpList Tryd.prog ops Q (o :: rest) a w := by
  refine wpList_plain hgd fun K hK => ?_
  obtain ⟨v', w', hr, h2, h3⟩ := run_append_B hown o.type ad m c news hl hm hnews h1 h63 hbase
  unfold Oper.wp execOp
  simp only [ho, resolve, invoke, builtin, Sem.run_bind, Sem.run_pure, Result.andThen_ok, List.map_toArray, List.map_cons, List.map_nil, hs, hx, hr]
  exact hK _ _ (h v' w' h2 h3)

theorem VAt.list {w : World} {A : Option Addr} {c : Nat} {l : List Va} (h : ElsAt w A l) (hl : l.length ≤ 140737488351232) (hA : A = none → c = 0) : VAt w (.mk 3 0 ⟨#[]⟩ l []) (vaV 3 0 ⟨#[]⟩ A l.length c none 0 0) := by
  by_cases h0 : 0 < l.length
  · obtain ⟨b, o, rfl, hb, hr⟩ := h.row h0
    refine .mk 3 0 ⟨#[]⟩ l [] (some ⟨b, o, none⟩) c none 0 ⟨by decide, by decide⟩ ⟨by decide, by decide⟩ (by decide) hl (by decide) hA (fun _ => rfl) b o (fun i => .agg #[(w.cell? ⟨b, o + i * 5, none⟩).getD undef, (w.cell? ⟨b, o + i * 5 + 1, none⟩).getD undef, (w.cell? ⟨b, o + i * 5 + 2, none⟩).getD undef, (w.cell? ⟨b, o + i * 5 + 3, none⟩).getD undef, (w.cell? ⟨b, o + i * 5 + 4, none⟩).getD undef]) (fun i hi => ?_) (fun i x hx => ?_) (fun i s hs => by simp at hs)
    · obtain ⟨k, n, s, A1, m, c1, A2, m', c', q0, q1, q2, q3, q4, _⟩ := hr i _ (List.getElem?_eq_getElem hi)
      refine ⟨rfl, _, _, _, _, _, ?_, q0, q1, q2, q3, q4⟩
      simp only [q0, q1, q2, q3, q4, Option.getD_some]
    · obtain ⟨k, n, s, A1, m, c1, A2, m', c', q0, q1, q2, q3, q4, hv⟩ := hr i x hx
      simp only [q0, q1, q2, q3, q4, Option.getD_some]
      exact hv
  · have e0 : l = [] := List.length_eq_zero_iff.1 (by omega)
    subst e0
    exact .mk 3 0 ⟨#[]⟩ [] [] A c none 0 ⟨by decide, by decide⟩ ⟨by decide, by decide⟩ (by decide) (by decide) (by decide) hA (fun _ => rfl) 0 0 (fun _ => zeroV) (fun i hi => by simp at hi) (fun i x hx => by simp at hx) (fun i s hs => by simp at hs)
theorem fewAll_mem {l : List Va} (h : fewAll l = true) {i : Nat} {x : Va} (hx : l[i]? = some x) : fewB x = true := by
  unfold fewAll at h
  rw [List.all_eq_true] at h
  exact h x (List.mem_of_getElem? hx)
theorem list_nest {l : List Va} (h : fewAll l = true) : Va.nest (.mk 3 0 ⟨#[]⟩ l []) ≤ 1000 := by
  have : nestAll l ≤ 21 := nestAll_le fun i x hx => few_nest (fewAll_mem h hx)
  simp only [Va.nest]
  omega
theorem encL_few : ∀ (l : List Va) (B : Nat), (∀ (i : Nat) (x : Va), l[i]? = some x → x.enc.length ≤ B) → (encL l).length ≤ B * l.length
  | [], B, _ => by simp [encL]
  | x :: r, B, h => by
    have h0 := h 0 x rfl
    have h1 := encL_few r B fun i y hy => h (i + 1) y (by simpa using hy)
    simp only [encL, List.length_append, List.length_cons]
    rw [Nat.mul_add]
    omega
theorem list_len {w : World} {A : Option Addr} {l : List Va} (h : fewAll l = true) (hE : ElsAt w A l) (hl : l.length ≤ 20) : (Va.enc (.mk 3 0 ⟨#[]⟩ l [])).length ≤ 1000000000 := by
  have h1 := encL_few l 60000 (fun i y hy => by
    obtain ⟨_, _, _, _, _, _, _, _, _, _, _, _, _, _, _, _, _, hv⟩ := hE i y hy
    exact few_enc hv (fewAll_mem h hy))
  have : Va.enc (.mk 3 0 ⟨#[]⟩ l []) = 108 :: encL l ++ [101] := by simp [Va.enc]
  rw [this]
  simp
  omega
theorem list_wf (l : List Va) : Va.wf (.mk 3 0 ⟨#[]⟩ l []) = wfAll l := by simp [Va.wf, fitsB, ByteArray.toList_eq]
/-- an element that has no encoding: the list has none -/
theorem list_bad' {l : List Va} {i : Nat} {x : Va} (hx : l[i]? = some x) (h : chkE x ≠ 0) : chkE (.mk 3 0 ⟨#[]⟩ l []) ≠ 0 := by
  intro e
  obtain ⟨h1, h2⟩ := chk_split e
  rw [list_wf] at h1
  have h3 := wfAll_mem' h1 hx
  simp only [Va.dep] at h2
  rw [if_neg (by decide)] at h2
  have h4 := depAll_mem hx
  refine h ?_
  unfold chkE
  rw [h3]
  simp
  omega
theorem wfAll_of : ∀ {l : List Va}, (∀ (i : Nat) (x : Va), l[i]? = some x → chkE x = 0) → wfAll l = true
  | [], _ => rfl
  | y :: r, h => by simp only [wfAll, Bool.and_eq_true]; exact ⟨(chk_split (h 0 y rfl)).1, wfAll_of fun i x hx => h (i + 1) x (by simpa using hx)⟩
theorem list_ok {l : List Va} (h : ∀ (i : Nat) (x : Va), l[i]? = some x → chkE x = 0) : chkE (.mk 3 0 ⟨#[]⟩ l []) = 0 ∨ chkE (.mk 3 0 ⟨#[]⟩ l []) = 2 := by
  have hw := wfAll_of h
  unfold chkE
  rw [list_wf, hw]
  simp only [if_true]
  split
  · exact .inl rfl
  · exact .inr rfl

set_option maxRecDepth 100000 in
set_option maxHeartbeats 8000000 in
theorem lists_any (A : Option Addr) (cap : Nat) (l : List Va) (w : World) (hels : ElsAt w A l) (hlen : l.length * 80 ≤ 140737488351232) (hnl : A = none → cap = 0) (hcap : l.length ≤ cap) (hE : Env w) (hw : gTop ≤ w.heap.size) :
    Calls Tryd.prog 8 #[.slice A l.length cap] w (LawOk w) := by
  have HE := hide hE; have HV := hide hels; have HNL := hide hnl
  have kc := fun (W : World) (C : Array Value) (n c : Nat) => Lib.run_convert_bytes_const (P := Tryd.prog) W 28 5 C n c Tryd.underlying28 Tryd.underlying5
  have hm : l.length ≤ 140737488351232 := by omega
  have HFEW := hide (fun (W : World) (hW : Below w.heap.size w W) => few_list A cap l W ((unhide HV).later hW) hm)
  have HLIST := hide (fun (W : World) (hW : Below w.heap.size w W) => VAt.list ((unhide HV).later hW) hm (unhide HNL))
  obtain ⟨m, hml⟩ : ∃ m, l.length = m := ⟨_, rfl⟩
  rw [hml] at hlen hcap hm HFEW HLIST ⊢
  have HML := hide hml
  clear hE hels hnl hml
  go_enter Tryd.func8, Tryd.ntmps8
  go_wp2_with fail
  refine (sane_any _ (unhide HE) hw).mono ?_
  rintro e w1 ⟨rfl, hb1⟩
  have HB1 := hide hb1; clear hb1
  go_wp2_with fail
  refine ((unhide HFEW) w1 (unhide HB1)).mono ?_
  rintro e w2 ⟨rfl, hb2⟩
  have HB2 := hide (thenB (unhide HB1) hb2); clear hb2 HB1
  cases hfew : fewAll l with
  | false =>
    clear hfew
    go_wp2_with fail
    go_ret
    exact ⟨rfl, unhide HB2⟩
  | true =>
    have HF := hide hfew; clear hfew
    by_cases h20 : 20 < m
    · have b1 : decide ((20 : Int) < (m : Int)) = true := decide_eq_true (by omega)
      go_wp2_with fail
      go_ret
      exact ⟨rfl, unhide HB2⟩
    have b1 : decide ((20 : Int) < (m : Int)) = false := decide_eq_false (by omega)
    go_wp2_with fail
    go_loopw [3, 26] (fun v i wr => ∃ j : Nat, j ≤ m ∧ i = .int .i64 (j : Int) ∧ OwnB wr w.heap.size v (108 :: encL (l.take j)) ∧ (∀ (i : Nat) (x : Va), l[i]? = some x → i < j → chkE x = 0) ∧ Below w.heap.size w wr) (fun _ i _ => m - (intOf i).toNat)
    case atStart =>
      refine ⟨0, Nat.zero_le _, rfl, .inr ⟨w2.heap.size, 108, rfl, (unhide HB2).size, by simp, by simp [encL], ?_⟩, (fun i x _ h => by omega), (unhide HB2).alloc (unhide HB2).size _⟩
      exact cell_of_row _ _ 0 _ _ _ (heap_alloc_new _ _)
    case round =>
      obtain ⟨j, hj, rfl, hown, hok, hbr⟩ := hrel
      have HO := hide hown; have HK := hide hok; have HBR := hide hbr
      clear hown hok hbr
      by_cases hlt : j < m
      · obtain ⟨x, hx⟩ : ∃ x, l[j]? = some x := ⟨_, List.getElem?_eq_getElem (by rw [unhide HML]; exact hlt)⟩
        obtain ⟨b, o, k1, n1, s1, A1, m1, c1, A2, m2, c2, rfl, d0, d1, d2, d3, d4, hv⟩ := (unhide HV) j x hx
        have hbw := World.block_lt_of_cell? w _ d0
        simp only at hbw
        rw [← (unhide HBR).cell (p := ⟨b, o + j * 5, none⟩) hbw] at d0
        rw [← (unhide HBR).cell (p := ⟨b, o + j * 5 + 1, none⟩) hbw] at d1
        rw [← (unhide HBR).cell (p := ⟨b, o + j * 5 + 2, none⟩) hbw] at d2
        rw [← (unhide HBR).cell (p := ⟨b, o + j * 5 + 3, none⟩) hbw] at d3
        rw [← (unhide HBR).cell (p := ⟨b, o + j * 5 + 4, none⟩) hbw] at d4
        have hwr : w.heap.size ≤ wr.heap.size := (unhide HBR).size
        have hfx := few_enc' hv (fewAll_mem (unhide HF) hx)
        have hfl := few_enc hv (fewAll_mem (unhide HF) hx)
        have hBx := (unhide HBR).alloc hwr (.cells #[.int .i64 k1, .int .i64 n1, .string s1, .slice A1 m1 c1, .slice A2 m2 c2] 25)
        have HC := hide (encode_b (hv.later hBx) hfx.1 hfx.2 ((unhide HE).to hw hBx) (Nat.le_trans hw hBx.size))
        have HBX := hide hBx; have HX := hide hx; have HFL := hide hfl
        clear hv hfx hx hBx hfl
        have hj0 : (0 : Int) ≤ (j : Int) := Int.natCast_nonneg _
        have hjm : (j : Int) < (m : Int) := by omega
        go_wp2_with fail
        refine (unhide HC).mono ?_
        rintro e w3 ⟨b3, rfl, hB3, hb3⟩
        have HB3 := hide (thenB (unhide HBX) hb3)
        have HO3 := hide (((unhide HO).later ((Below.refl _ _).alloc (Nat.le_refl _) _)).later hb3)
        have HC3 := hide hB3
        clear hB3 hb3 HC HO d0 d1 d2 d3 d4
        by_cases hx0 : chkE x = 0
        case neg =>
          have q1 : (chkE x != 0) = true := by simpa using hx0
          have hbad := list_bad' (unhide HX) hx0
          have q2 : (chkE (.mk 3 0 ⟨#[]⟩ l []) != 0) = true := by simpa using hbad
          have HQ2 := hide q2
          clear hx0 hbad q2 HO3 HC3
          generalize chkE x = z1 at q1 ⊢
          go_wp2_with fail
          refine (mkList_any _ m cap w3).mono ?_
          rintro e w4 ⟨rfl, hb4⟩
          have HB4 := hide (thenB (unhide HB3) hb4); clear hb4
          go_wp2_with fail
          refine (encode_b ((unhide HLIST) w4 (unhide HB4)) (list_nest (unhide HF)) (list_len (unhide HF) (unhide HV) (by rw [unhide HML]; omega)) ((unhide HE).to hw (unhide HB4)) (Nat.le_trans hw (unhide HB4).size)).mono ?_
          rintro e w5 ⟨b5, rfl, _, hb5⟩
          have HB5 := hide (thenB (unhide HB4) hb5); clear hb5
          have q2 := unhide HQ2
          generalize chkE (.mk 3 0 ⟨#[]⟩ l []) = z2 at q2 ⊢
          clear q1
          go_wp2_with fail
          go_ret
          exact ⟨rfl, unhide HB5⟩
        case pos =>
          have hc3 := unhide HC3
          rw [encF_ok hx0] at hc3
          obtain ⟨A3, c3, rfl, hA3, _, _, hr3⟩ := hc3
          obtain ⟨bh, th, hhead, _⟩ := enc_head x
          have hlen1 : 1 ≤ x.enc.length := by rw [hhead]; simp
          rcases hA3 with ⟨_, h0, _⟩ | ⟨g, o3, rfl, _⟩
          · rw [h0] at hlen1; simp at hlen1
          have hnews : ∀ i u, (Lib.byteCells x.enc)[i]? = some u → w3.cell? ((⟨g, o3, none⟩ : Addr).add i) = some u := fun i u hu => by
            obtain ⟨y, hy, rfl⟩ : ∃ y, x.enc[i]? = some y ∧ u = .int .u8 (y.toNat : Int) := by
              unfold Lib.byteCells at hu
              rw [List.getElem?_map] at hu
              cases hq : x.enc[i]? with
              | none => rw [hq] at hu; cases hu
              | some y => rw [hq] at hu; injection hu with hu; exact ⟨y, rfl, hu.symm⟩
            obtain ⟨g', o', e, hc⟩ := hr3 i y hy
            injection e with e
            injection e with e1 e2
            subst e1 e2
            rw [Lib.add_plain]
            exact hc
          have HN := hide hnews
          have hone : ∀ u ∈ Lib.byteCells x.enc, u.oneCell' = true := fun u hu => by
            unfold Lib.byteCells at hu
            obtain ⟨y, _, rfl⟩ := List.mem_map.1 hu
            rfl
          have HONE := hide hone
          have hbl : (Lib.byteCells x.enc).length = x.enc.length := by simp [Lib.byteCells]
          have HBL := hide hbl
          have hsum : (108 :: encL (l.take j)).length + x.enc.length ≤ 1000000000 := by
            have h1 := encL_few (l.take j) 60000 (fun i y hy => by
              have hy' : l[i]? = some y := by rw [List.getElem?_take] at hy; split at hy; exact hy; cases hy
              obtain ⟨_, _, _, _, _, _, _, _, _, _, _, _, _, _, _, _, _, hv⟩ := (unhide HV) i y hy'
              exact few_enc hv (fewAll_mem (unhide HF) hy'))
            have h2 : (l.take j).length ≤ 20 := by rw [List.length_take]; omega
            have := unhide HFL
            simp only [List.length_cons]
            omega
          have HSUM := hide hsum
          have HX0 := hide hx0
          have hw3 : w.heap.size ≤ w3.heap.size := (unhide HB3).size
          have HL1 := hide hlen1
          rw [hx0]
          clear hnews hone hbl hsum hx0 hr3 HC3 hhead hlen1
          generalize hne : x.enc.length = ne
          have HNE := hide hne
          clear hne
          go_wp2_with (at_builtin; refine wpList_append_B rfl _ _ rfl w.heap.size _ (108 :: encL (l.take j)) rfl (unhide HO3) ⟨g, o3, none⟩ ne c3 (Lib.byteCells x.enc) rfl ((unhide HBL).trans (unhide HNE)) (by have := unhide HL1; have := unhide HNE; omega) (unhide HN) (unhide HONE) (by have := unhide HSUM; have := unhide HNE; omega) hw3 ?_; intro v4 w4 hown4 hg4)
          have HB4 := hide ((unhide HB3).grown hg4 hw3 (fun k hk => ((unhide HO3).lt k hk).1))
          have HO4 := hide hown4
          clear hown4 hg4
          go_wp2_with fail
          go_roundw
          case rel =>
            refine ⟨j + 1, by omega, by go_num, .inl (ownCast (unhide HO4) ?_ ?_), fun i y hy hi => ?_, unhide HB4⟩
            · rw [encL_take (unhide HX)]; have := unhide HNE; simp; omega
            · rw [encL_take (unhide HX)]; simp [Lib.byteCells]
            · by_cases hij : i < j
              · exact (unhide HK) i y hy hij
              · obtain rfl : i = j := by omega
                have := unhide HX
                rw [hy] at this
                injection this with this
                subst this
                exact unhide HX0
          case measure => simp [intOf]; omega
      · have hjm : m = j := by omega
        subst hjm
        have htl : l.take m = l := List.take_of_length_le (by rw [unhide HML]; omega)
        rw [htl] at HO
        have hall : ∀ (i : Nat) (x : Va), l[i]? = some x → chkE x = 0 := fun i x hx => (unhide HK) i x hx (by have := (List.getElem?_eq_some_iff.1 hx).1; have := unhide HML; omega)
        have HCHK := hide (list_ok hall)
        clear hall HK htl
        go_wp2_with fail
        refine (mkList_any _ m cap wr).mono ?_
        rintro e w4 ⟨rfl, hb4⟩
        have HB4 := hide (thenB (unhide HBR) hb4)
        have HO4 := hide ((unhide HO).later hb4)
        clear hb4 HO
        go_wp2_with fail
        refine (encode_b ((unhide HLIST) w4 (unhide HB4)) (list_nest (unhide HF)) (list_len (unhide HF) (unhide HV) (by rw [unhide HML]; omega)) ((unhide HE).to hw (unhide HB4)) (Nat.le_trans hw (unhide HB4).size)).mono ?_
        rintro e w5 ⟨b5, rfl, hB5, hb5⟩
        have HB5 := hide (thenB (unhide HB4) hb5)
        have HO5 := hide ((unhide HO4).later hb5)
        have HC5 := hide hB5
        clear hb5 HO4 hB5
        rcases unhide HCHK with hz | hz
        · have hc5 := unhide HC5
          rw [encF_ok hz] at hc5
          rw [hz]
          have k1 := hc5.conv
          have k2 := (unhide HO5).at.conv
          have hcat : (⟨(Va.enc (.mk 3 0 ⟨#[]⟩ l [])).toArray⟩ : ByteArray) = ⟨(108 :: encL l).toArray⟩ ++ ⟨#[101]⟩ := by
            have : Va.enc (.mk 3 0 ⟨#[]⟩ l []) = 108 :: encL l ++ [101] := by simp [Va.enc]
            rw [this]
            apply ByteArray.ext
            simp
          rw [hcat] at k1
          have hs2 : (⟨(108 :: encL l).toArray⟩ : ByteArray).size + (⟨#[101]⟩ : ByteArray).size ≤ 9223372036854775807 := by
            have h1 := list_len (unhide HF) (unhide HV) (by rw [unhide HML]; omega)
            have e : (Va.enc (.mk 3 0 ⟨#[]⟩ l [])).length = (108 :: encL l).length + 1 := by simp [Va.enc]
            have e2 : (⟨(108 :: encL l).toArray⟩ : ByteArray).size = (108 :: encL l).length := by show (108 :: encL l).toArray.size = _; simp
            have e3 : (⟨#[101]⟩ : ByteArray).size = 1 := rfl
            omega
          have hadd := run_string_add_sum (P := Tryd.prog) (w := w5) (⟨(108 :: encL l).toArray⟩ : ByteArray) (⟨#[101]⟩ : ByteArray) hs2
          clear hs2
          generalize (⟨(108 :: encL l).toArray⟩ : ByteArray) = s2 at k1 k2 hadd
          clear hz hc5 hcat HC5 HO5
          go_wp2_with fail
          go_ret
          exact ⟨by simp, unhide HB5⟩
        · rw [hz]
          clear hz
          go_wp2_with fail
          go_ret
          exact ⟨rfl, unhide HB5⟩
end Go.Proofs.YtpjfpcbodjmbnaaDoor
