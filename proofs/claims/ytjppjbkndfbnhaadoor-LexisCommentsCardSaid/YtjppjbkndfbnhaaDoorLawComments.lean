/- The law LexisComments returns true for all texts, numbers and remarks. -/
import Derived.Test.YtjppjbkndfbnhaaDoorLexCm
import Derived.Test.YtjppjbkndfbnhaaDoorLexOrd
namespace Go.Proofs.YtjppjbkndfbnhaaDoor
set_option linter.unusedSimpArgs false
set_option linter.unusedVariables false
open Go.RowKit Go.LawClose

def AnyW (W : World) : Prop := True
structure ComInv (S : List Lx.B) (k : Nat) (r : ByteArray) (w : World) (j : Nat) (v : Value) (wr : World) : Prop where
  own : OwnB wr w.heap.size v (S.take k ++ 35 :: plainB ((L r).take j))
  below : Below w.heap.size w wr
theorem ComInv.step {S : List Lx.B} {k : Nat} {r : ByteArray} {w : World} {j : Nat} {v v2 : Value} {wr w2 : World} {o : Obj} (h : ComInv S k r w j v wr) (hj : j < r.size) (h1 : r[j] ≠ 10) (h2 : r[j] ≠ 34)
    (ho : OwnB w2 w.heap.size v2 (S.take k ++ 35 :: (plainB ((L r).take j) ++ [r[j]]))) (hg : (wr.alloc o).grownBy w2 v.ownBlock) : ComInv S k r w (j + 1) v2 w2 := by
  refine ⟨?_, (h.below.alloc h.below.size o).grown hg (by have := h.below.size; simp; omega) (own_lt h.own)⟩
  rw [L_take' r j hj, plainB_yes h1 h2]
  exact ho
theorem ComInv.skip {S : List Lx.B} {k : Nat} {r : ByteArray} {w : World} {j : Nat} {v : Value} {wr : World} (h : ComInv S k r w j v wr) (hj : j < r.size) (h1 : r[j] = 10 ∨ r[j] = 34) : ComInv S k r w (j + 1) v wr := by
  refine ⟨?_, h.below⟩
  rw [L_take' r j hj, plainB_no h1]
  exact h.own
theorem len_ins (S rem : List Lx.B) (k : Nat) : (S.take k ++ Lx.insC rem (S.drop k)).length ≤ (S.take k ++ 35 :: rem).length + 1 + S.length := by
  unfold Lx.insC
  simp only [List.length_append, List.length_cons, List.length_drop]
  omega
theorem com_true (A R : Option Addr) (c cr n nr : Nat) (N : Int) (w : World) (HSA : Hid (Calls Tryd.prog 11 #[] w (TrueB w))) (h : 2000 < n ∨ 100 < nr) :
    Calls Tryd.prog 9 #[.slice A n c, .int .u64 N, .slice R nr cr] w (LawOk w) := by
  by_cases h1 : 2000 < n
  · have h' : (2000 : Int) < (n : Int) := by omega
    go_enter Tryd.func9, Tryd.ntmps9
    go_wp2_with fail
    refine (unhide HSA).mono ?_; rintro e w1 ⟨rfl, hb1⟩
    have HB1 := hide hb1
    clear hb1
    go_wp2_with fail
    go_ret
    exact ⟨rfl, unhide HB1⟩
  · have h' : ¬ (2000 : Int) < (n : Int) := by omega
    have h'' : (100 : Int) < (nr : Int) := by omega
    go_enter Tryd.func9, Tryd.ntmps9
    go_wp2_with fail
    refine (unhide HSA).mono ?_; rintro e w1 ⟨rfl, hb1⟩
    have HB1 := hide hb1
    clear hb1
    go_wp2_with fail
    go_ret
    exact ⟨rfl, unhide HB1⟩
set_option maxRecDepth 100000 in
set_option maxHeartbeats 8000000 in
theorem comments_any (A : Option Addr) (c : Nat) (s : ByteArray) (N : Int) (R : Option Addr) (cr : Nat) (r : ByteArray) (w : World) (hc : s.size ≤ c) (hA : A = none → c = 0) (hs : s.size ≤ 140737488351232) (hS : Src w A s) (hn0 : 0 ≤ N) (hn1 : N ≤ 18446744073709551615)
    (hcr : r.size ≤ cr) (hR : R = none → cr = 0) (hrs : r.size ≤ 140737488351232) (hSR : Src w R r) (hT : Tab w) :
    Calls Tryd.prog 9 #[.slice A s.size c, .int .u64 N, .slice R r.size cr] w (LawOk w) := by
  have HSA := hide (sane_any w hT)
  obtain ⟨n, hn⟩ : ∃ n, s.size = n := ⟨_, rfl⟩
  obtain ⟨nr, hnr⟩ : ∃ n, r.size = n := ⟨_, rfl⟩
  rw [hn] at hc hs ⊢
  rw [hnr] at hcr hrs ⊢
  by_cases hbig : 2000 < n ∨ 100 < nr
  · exact com_true A R c cr n nr N w HSA hbig
  obtain ⟨h1, h2⟩ : n ≤ 2000 ∧ nr ≤ 100 := by omega
  have h1' : ¬ (2000 : Int) < (n : Int) := by omega
  have h2' : ¬ (100 : Int) < (nr : Int) := by omega
  have htk := fun W (hB : Below w.heap.size w W) => tokens_src A n c s W hn (by omega) (hS.keep hB) (hT.keep hB)
  obtain ⟨M, rfl⟩ : ∃ M : Nat, N = (M : Int) := ⟨N.toNat, by omega⟩
  have HTK := hide htk; have HT := hide hT; have HS := hide hS; have HSR := hide hSR; have HN := hide hn; have HNR := hide hnr; have HA := hide hA; have HR := hide hR
  have hTl : ∃ nT, (Lx.toks (L s)).1.length = nT ∧ 0 < nT ∧ nT ≤ 10000 := by
    obtain ⟨b, hj, hwg⟩ := again_math (L s)
    obtain ⟨p, b', h3, _, _⟩ := Lx.toks_fit (L s)
    have := Lx.wgt_len (Lx.toks (L s)).1
    rw [L_len, hn] at hwg
    refine ⟨_, rfl, by rw [h3]; simp, by omega⟩
  obtain ⟨nT, hnT, hT0, hT1⟩ := hTl
  have hi : M % nT < nT := Nat.mod_lt _ hT0
  obtain ⟨t, ht⟩ : ∃ t, (Lx.toks (L s)).1[M % nT]? = some t := ⟨_, List.getElem?_eq_getElem (by omega)⟩
  obtain ⟨k, hk, hkn⟩ := Lx.toks_le (List.mem_of_getElem? ht)
  rw [L_len, hn] at hkn
  have hins := Lx.toks_ins (rem := plainB (L r)) (plain_plainB _) (List.mem_of_getElem? ht) hk
  have HNT := hide hnT; have HTT := hide ht; have HKK := hide hk; have HINS := hide hins
  have hmi : ((M : Int) % (nT : Int)) = ((M % nT : Nat) : Int) := by omega
  clear htk hT hS hSR hn hnr hA hR hnT ht hk hins hbig
  go_enter Tryd.func9, Tryd.ntmps9
  go_wp2_with fail
  refine (unhide HSA).mono ?_; rintro e w1 ⟨rfl, hb1⟩
  have HB1 := hide hb1
  clear hb1
  go_wp2_with fail
  refine ((unhide HTK) _ (unhide HB1)).mono ?_; rintro e w2 ⟨A2, c2, B2, d2, rfl, hA2, hc2, _, _, hb2⟩
  have HB2 := hide (thenB (unhide HB1) hb2)
  rw [unhide HNT]
  generalize (Lx.toks (L s)).2.length = nb2
  have HA2 := hide hA2
  obtain ⟨b2, o2, rfl, _, hcl⟩ := hA2.at_ (List.ne_nil_of_length_pos (by have := unhide HNT; omega))
  obtain ⟨_, _, hca⟩ := hcl _ t (unhide HTT)
  rw [unhide HKK] at hca
  generalize hii : M % nT = i at hi hmi hca
  have HC2 : Hid (nT ≤ c2) := by have := unhide HNT; show nT ≤ c2; omega
  clear hb2 hA2 hc2 hcl hii
  have hkc : k ≤ c := by omega
  have hxs : (s.extract 0 k).size = k := by rw [ByteArray.size_extract]; have := unhide HN; omega
  have hxL : L (s.extract 0 k) = (L s).take k := by rw [L_extract, List.drop_zero]
  obtain ⟨v3, W3, hr3, ho3, hg3⟩ := run_append_Src (own_newB w2) 22 A k c (s.extract 0 k) hxs (((unhide HS).keep (((unhide HB2).alloc (unhide HB2).size _))).take k) (unhide HA) (by simp; omega) (by simp)
  rw [List.nil_append, hxL] at ho3
  have hb3 : Below w2.heap.size w2 W3 := ((Below.refl _ _).alloc (Nat.le_refl _) _).grown hg3 (by simp) (fun g hg => by simp [Value.ownBlock] at hg; omega)
  have HR3 := hide hr3; have HO3 := hide ho3; have HB3 := hide hb3
  clear hr3 ho3 hg3 hb3 hxs hxL
  have hk4 : ((L s).take k).length = k := by rw [List.length_take, L_len]; have := unhide HN; omega
  have HK4 := hide hk4
  clear hk4
  go_wp2_with (at_builtin; first | refine wpList_app rfl (.tmp 57) (.tmp 60) 22 rfl _ _ v3 W3 rfl rfl (unhide HR3) ?_ | refine wpList_appB rfl (.tmp 62) (.tmp 63) rfl w2.heap.size _ ((L s).take k) [35] W3.heap.size 1 1 rfl rfl rfl (World.ownsRow.alloc (unhide HO3) _) (oneB ?c1) ?c3 ?c4 ?_)
  case c1 => go_simp
  case c3 => have := unhide HK4; simp only [List.length_cons, List.length_nil]; omega
  case c4 => have := (unhide HB3).size; simp; omega
  intro v4 w4 hown hgrow
  have HI4 := hide (ComInv.mk (by rw [List.take_zero]; exact hown) (((unhide HB3).alloc (unhide HB3).size _).grown hgrow (by have := (unhide HB3).size; simp; omega) (own_lt (unhide HO3))) : ComInv (L s) k r w2 0 v4 w4)
  clear hown hgrow
  go_wp2_with fail
  go_loopw [11, 12] (fun v i wr => ∃ j : Nat, j ≤ nr ∧ i = .int .i64 (j : Int) ∧ ComInv (L s) k r w2 j v wr) (fun _ i _ => nr - (intOf i).toNat)
  case atStart => exact ⟨0, Nat.zero_le _, rfl, unhide HI4⟩
  case round =>
    obtain ⟨j, hj, rfl, hinv⟩ := hrel
    have hlen : ((L s).take k ++ 35 :: plainB ((L r).take j)).length ≤ 5000 := by
      have h3 := plainB_len ((L r).take j)
      have h4 : ((L r).take j).length ≤ j := List.length_take_le _ _
      have := unhide HK4
      rw [List.length_append, List.length_cons]
      omega
    have hszr := hinv.below.size
    have HI := hide hinv; have HLEN := hide hlen
    by_cases hlt : j < nr
    · have hjr : j < r.size := by have := unhide HNR; omega
      obtain ⟨bR, oR, rfl, hltR, hcR⟩ := ((unhide HSR).keep ((unhide HB2).trans (hinv.below.mono (unhide HB2).size))).cell (by omega)
      have hcj := hcR j hjr
      have hjcr : j < cr := by omega
      clear hinv hlen hcR
      by_cases h10 : r[j] = 10
      · have q1 : ((r[j].toNat : Int) != 10) = false := by rw [h10]; rfl
        have HN := hide ((unhide HI).skip hjr (.inl h10))
        clear h10
        go_wp2_with fail
        go_roundw
        case rel => exact ⟨j + 1, by omega, by go_num, unhide HN⟩
        case measure => simp [intOf]; omega
      · have q1 : ((r[j].toNat : Int) != 10) = true := toNat_ne (n := 10) (by decide) h10
        by_cases h34 : r[j] = 34
        · have q2 : ((r[j].toNat : Int) != 34) = false := by rw [h34]; rfl
          have HN := hide ((unhide HI).skip hjr (.inr h34))
          clear h10 h34
          go_wp2_with fail
          go_roundw
          case rel => exact ⟨j + 1, by omega, by go_num, unhide HN⟩
          case measure => simp [intOf]; omega
        · have q2 : ((r[j].toNat : Int) != 34) = true := toNat_ne (n := 34) (by decide) h34
          have H10 := hide h10; have H34 := hide h34
          clear h10 h34
          go_wp2_with (at_builtin; refine wpList_appB rfl (.tmp 83) (.tmp 88) rfl w2.heap.size _ ((L s).take k ++ 35 :: plainB ((L r).take j)) [r[j]] wr.heap.size 1 1 rfl rfl rfl (World.ownsRow.alloc (unhide HI).own _) (oneB ?c5) ?c6 ?c7 ?_)
          case c5 => go_simp
          case c6 => have := unhide HLEN; simp only [List.length_cons, List.length_nil]; omega
          case c7 => simp; omega
          intro v5 w5 hown hgrow
          have HN := hide ((unhide HI).step hjr (unhide H10) (unhide H34) hown hgrow)
          clear hown hgrow
          go_wp2_with fail
          go_roundw
          case rel => exact ⟨j + 1, by omega, by go_num, unhide HN⟩
          case measure => simp [intOf]; omega
    · have hfin : (L s).take k ++ 35 :: plainB ((L r).take j) = (L s).take k ++ 35 :: plainB (L r) := by
        have e : (L r).take j = L r := List.take_of_length_le (by rw [L_len]; have := unhide HNR; omega)
        rw [e]
      have hown := hinv.own
      have hbel := hinv.below
      rw [hfin] at hown
      rw [hfin] at hlen
      have HOW := hide hown; have HBE := hide hbel; have HLN := hide hlen
      clear hinv hfin hown hbel hlen HI HLEN
      have a1 : (k : Int) ≤ (n : Int) := by omega
      have a2 : (n : Int) ≤ (c : Int) := by omega
      have a3 : (0 : Int) ≤ (k : Int) := Int.natCast_nonneg _
      go_wp2_with fail
      obtain ⟨W, hW⟩ : ∃ W, W = wr.drewN 1 := ⟨_, rfl⟩
      have HW : Hid (W = wr.drewN 1) := hW
      have hSW : AnyW W := trivial
      clear hW
      cases A with
      | none =>
        obtain rfl := (unhide HA) rfl
        obtain rfl : n = 0 := by omega
        obtain rfl : k = 0 := by omega
        refine held (S := AnyW) W HW (by kernel_rfl) ?_
        refine wpAnyH_take (i := 0) (v := ?_) rfl (by kernel_rfl) (by kernel_rfl) (by kernel_rfl) (fun _ _ _ h => h) (Or.inl ⟨by kernel_rfl, ?_⟩) (by assumption) ?_
        rotate_left
        · intro Wt hSt
          go_simp
          try with_reducible rfl
        try simp only [List.getElem_toArray, List.getElem_cons_zero, List.getElem_cons_succ, Act.put, List.setIfInBounds_toArray, List.set_cons_zero, List.set_cons_succ]
        refine wpAnyH_take (i := 3) (v := ?_) rfl (by kernel_rfl) (by kernel_rfl) (by kernel_rfl) (fun _ _ _ h => h) (Or.inl ⟨by kernel_rfl, ?_⟩) (by assumption) ?_
        rotate_left
        · intro Wt hSt
          go_simp
          try with_reducible rfl
        try simp only [List.getElem_toArray, List.getElem_cons_zero, List.getElem_cons_succ, Act.put, List.setIfInBounds_toArray, List.set_cons_zero, List.set_cons_succ]
        refine wpAnyH_take (i := 4) (v := ?_) rfl (by kernel_rfl) (by kernel_rfl) (by kernel_rfl) (fun _ _ _ h => h) (Or.inl ⟨by kernel_rfl, ?_⟩) (by assumption) ?_
        rotate_left
        · intro Wt hSt
          go_simp
          try with_reducible rfl
        try simp only [List.getElem_toArray, List.getElem_cons_zero, List.getElem_cons_succ, Act.put, List.setIfInBounds_toArray, List.set_cons_zero, List.set_cons_succ]
        refine wpAnyH_take (i := 5) (v := ?_) rfl (by kernel_rfl) (by kernel_rfl) (by kernel_rfl) (fun _ _ _ h => h) (Or.inl ⟨by kernel_rfl, ?_⟩) (by assumption) ?_
        rotate_left
        · intro Wt hSt
          go_simp
          try with_reducible rfl
        try simp only [List.getElem_toArray, List.getElem_cons_zero, List.getElem_cons_succ, Act.put, List.setIfInBounds_toArray, List.set_cons_zero, List.set_cons_succ]
        refine wpAnyH_one 1 _ rfl (by kernel_rfl) (by kernel_rfl) ?_
        intro Kt hK
        go_simp
        generalize hX1 : W.alloc _ = W1
        have e0 : Src W1 (some ⟨W.heap.size, 0, none⟩) ⟨#[10]⟩ := by subst hX1; exact src_new W ⟨#[10]⟩ _ _ _ rfl
        have b1 : Below w2.heap.size w2 W1 := by subst hX1; exact ((unhide HBE).trans ((below_named HW).mono (unhide HBE).size)).alloc (Nat.le_trans (unhide HBE).size (below_named HW).size) _
        have o1 : OwnB W1 w2.heap.size u11 ((L s).take 0 ++ 35 :: plainB (L r)) := by subst hX1; exact World.ownsRow.alloc (OwnB.later (unhide HOW) (below_named HW)) _
        refine hK _ _ trivial ?_
        clear hK Kt hX1
        try simp only [List.getElem_toArray, List.getElem_cons_zero, List.getElem_cons_succ, Act.put, List.setIfInBounds_toArray, List.set_cons_zero, List.set_cons_succ]
        refine wpAnyH_one 2 _ rfl (by kernel_rfl) (by kernel_rfl) ?_
        intro Kt hK
        obtain ⟨v5, W5, hr5, ho5, hg5⟩ := run_append_Src o1 22 (some ⟨W.heap.size, 0, none⟩) 1 1 ⟨#[10]⟩ rfl e0 (fun e => by cases e) (by have := unhide HLN; omega) b1.size
        have b5 : Below w2.heap.size w2 W5 := b1.grown hg5 b1.size (own_lt o1)
        refine wp_append (.tmp 90) (.tmp 91) 22 rfl _ _ v5 W5 rfl rfl hr5 ?_
        refine hK _ _ trivial ?_
        clear hK Kt hr5 hg5 o1 b1 e0
        try simp only [List.getElem_toArray, List.getElem_cons_zero, List.getElem_cons_succ, Act.put, List.setIfInBounds_toArray, List.set_cons_zero, List.set_cons_succ]
        refine wpAnyH_one 6 _ rfl (by kernel_rfl) (by kernel_rfl) ?_
        intro Kt hK
        have hsx : (s.extract 0 s.size).size = 0 := by rw [ByteArray.size_extract]; have := unhide HN; omega
        obtain ⟨v6, W6, hr6, ho6, hg6⟩ := run_append_Src ho5 22 none 0 0 (s.extract 0 s.size) hsx (Src.zero ((unhide HS).keep ((unhide HB2).trans (b5.mono (unhide HB2).size))) _ (by rw [ByteArray.size_extract]; have := unhide HN; omega)) (fun _ => rfl) (by have := unhide HLN; have hq : (L (⟨#[10]⟩ : ByteArray)).length = 1 := rfl; rw [List.length_append, hq]; omega) b5.size
        have b6 : Below w2.heap.size w2 W6 := b5.grown hg6 b5.size (own_lt ho5)
        refine wp_append (.tmp 92) (.tmp 95) 22 rfl _ _ v6 W6 rfl rfl hr6 ?_
        refine hK _ _ trivial ?_
        clear hK Kt hr6 hg6 b5 ho5
        try simp only [List.getElem_toArray, List.getElem_cons_zero, List.getElem_cons_succ, Act.put, List.setIfInBounds_toArray, List.set_cons_zero, List.set_cons_succ]
        refine wpAnyH_one 7 _ rfl (by kernel_rfl) (by kernel_rfl) ?_
        intro Kt hK
        go_simp
        refine hK _ _ trivial ?_
        clear hK Kt
        try simp only [List.getElem_toArray, List.getElem_cons_zero, List.getElem_cons_succ, Act.put, List.setIfInBounds_toArray, List.set_cons_zero, List.set_cons_succ]
        refine wpAnyH_chainOf [] _ _ _ (by kernel_rfl) (by kernel_rfl) ?_
        refine wpChain_nil ?_
        have hxl : ((L s).take 0 ++ 35 :: plainB (L r)) ++ L (⟨#[10]⟩ : ByteArray) ++ L (s.extract 0 s.size) = (L s).take 0 ++ Lx.insC (plainB (L r)) ((L s).drop 0) := by
          rw [L_tail, show L (⟨#[10]⟩ : ByteArray) = [10] from rfl]
          unfold Lx.insC
          simp
        rw [hxl] at ho6
        have HO6 := hide ho6; have HB6 := hide b6
        clear hxl ho6 b6 hsx hSW HW
        have hxle : ((L s).take 0 ++ Lx.insC (plainB (L r)) ((L s).drop 0)).length ≤ 9000 := by have q1 := unhide HLN; have q2 := unhide HN; have q3 := len_ins (L s) (plainB (L r)) 0; rw [L_len] at q3; exact Nat.le_trans q3 (by omega)
        obtain ⟨X, hX⟩ : ∃ X, X = ((L s).take 0 ++ Lx.insC (plainB (L r)) ((L s).drop 0)) := ⟨_, rfl⟩
        rw [← hX] at HO6 hxle HINS
        have hHT := (unhide HT).keep ((unhide HB2).trans ((unhide HB6).mono (unhide HB2).size))
        obtain ⟨A6, c6, rfl, hsrc, hbc⟩ := own_src (unhide HO6)
        obtain ⟨n6, hn6⟩ : ∃ n6, X.length = n6 := ⟨_, rfl⟩
        have htk6 := tokens_src A6 n6 c6 ⟨X.toArray⟩ W6 (by show X.toArray.size = n6; simpa using hn6) (by omega) hsrc hHT
        rw [L_mk] at htk6
        rw [hn6]
        have HTK6 := hide htk6
        clear hX hxle hHT hsrc hbc hn6 htk6
        go_wp2_with fail
        refine (unhide HTK6).mono ?_; rintro e w7 ⟨A7, c7, B7, d7, rfl, hA7, hc7, _, _, hb7⟩
        have hbT := (unhide HB6).trans (hb7.mono (unhide HB6).size)
        have hal := alike_eq (some ⟨b2, o2, none⟩) A7 c2 c7 nT (Lx.toks (L s)).1 (Lx.toks X).1 w7 (unhide HNT) (unhide HINS).symm ((unhide HA2).keep hbT) hA7 (by omega)
        have e7 : (Lx.toks X).1.length = nT := by have := congrArg List.length (unhide HINS); simp only [List.length_map] at this; have := unhide HNT; omega
        have HAL := hide hal; have HB7 := hide ((unhide HB2).trans (hbT.mono (unhide HB2).size))
        rw [e7]
        generalize (Lx.toks X).2.length = nb7
        clear hA7 hc7 hb7 hbT hal e7
        go_wp2_with fail
        refine (unhide HAL).mono ?_; rintro e w8 ⟨rfl, hb8⟩
        have HB8 := hide (thenB (unhide HB7) hb8)
        clear hb8
        go_wp2_with fail
        go_ret
        exact ⟨by simp, unhide HB8⟩
      | some ad =>
        obtain ⟨ab, ao, asp⟩ := ad
        obtain rfl : asp = none := by
          rcases (unhide HS) with ⟨e, _⟩ | ⟨b', o', e, _⟩
          · cases e
          · injection e with e; injection e
        by_cases hck : c = k
        · subst hck
          obtain rfl : n = c := by omega
          refine held (S := AnyW) W HW (by kernel_rfl) ?_
          refine wpAnyH_take (i := 0) (v := ?_) rfl (by kernel_rfl) (by kernel_rfl) (by kernel_rfl) (fun _ _ _ h => h) (Or.inl ⟨by kernel_rfl, ?_⟩) (by assumption) ?_
          rotate_left
          · intro Wt hSt
            go_simp
            try with_reducible rfl
          try simp only [List.getElem_toArray, List.getElem_cons_zero, List.getElem_cons_succ, Act.put, List.setIfInBounds_toArray, List.set_cons_zero, List.set_cons_succ]
          refine wpAnyH_take (i := 3) (v := ?_) rfl (by kernel_rfl) (by kernel_rfl) (by kernel_rfl) (fun _ _ _ h => h) (Or.inl ⟨by kernel_rfl, ?_⟩) (by assumption) ?_
          rotate_left
          · intro Wt hSt
            go_simp
            try with_reducible rfl
          try simp only [List.getElem_toArray, List.getElem_cons_zero, List.getElem_cons_succ, Act.put, List.setIfInBounds_toArray, List.set_cons_zero, List.set_cons_succ]
          refine wpAnyH_take (i := 4) (v := ?_) rfl (by kernel_rfl) (by kernel_rfl) (by kernel_rfl) (fun _ _ _ h => h) (Or.inl ⟨by kernel_rfl, ?_⟩) (by assumption) ?_
          rotate_left
          · intro Wt hSt
            go_simp
            try with_reducible rfl
          try simp only [List.getElem_toArray, List.getElem_cons_zero, List.getElem_cons_succ, Act.put, List.setIfInBounds_toArray, List.set_cons_zero, List.set_cons_succ]
          refine wpAnyH_take (i := 5) (v := ?_) rfl (by kernel_rfl) (by kernel_rfl) (by kernel_rfl) (fun _ _ _ h => h) (Or.inl ⟨by kernel_rfl, ?_⟩) (by assumption) ?_
          rotate_left
          · intro Wt hSt
            go_simp
            try with_reducible rfl
          try simp only [List.getElem_toArray, List.getElem_cons_zero, List.getElem_cons_succ, Act.put, List.setIfInBounds_toArray, List.set_cons_zero, List.set_cons_succ]
          refine wpAnyH_one 1 _ rfl (by kernel_rfl) (by kernel_rfl) ?_
          intro Kt hK
          go_simp
          generalize hX1 : W.alloc _ = W1
          have e0 : Src W1 (some ⟨W.heap.size, 0, none⟩) ⟨#[10]⟩ := by subst hX1; exact src_new W ⟨#[10]⟩ _ _ _ rfl
          have b1 : Below w2.heap.size w2 W1 := by subst hX1; exact ((unhide HBE).trans ((below_named HW).mono (unhide HBE).size)).alloc (Nat.le_trans (unhide HBE).size (below_named HW).size) _
          have o1 : OwnB W1 w2.heap.size u11 ((L s).take n ++ 35 :: plainB (L r)) := by subst hX1; exact World.ownsRow.alloc (OwnB.later (unhide HOW) (below_named HW)) _
          refine hK _ _ trivial ?_
          clear hK Kt hX1
          try simp only [List.getElem_toArray, List.getElem_cons_zero, List.getElem_cons_succ, Act.put, List.setIfInBounds_toArray, List.set_cons_zero, List.set_cons_succ]
          refine wpAnyH_one 2 _ rfl (by kernel_rfl) (by kernel_rfl) ?_
          intro Kt hK
          obtain ⟨v5, W5, hr5, ho5, hg5⟩ := run_append_Src o1 22 (some ⟨W.heap.size, 0, none⟩) 1 1 ⟨#[10]⟩ rfl e0 (fun e => by cases e) (by have := unhide HLN; omega) b1.size
          have b5 : Below w2.heap.size w2 W5 := b1.grown hg5 b1.size (own_lt o1)
          refine wp_append (.tmp 90) (.tmp 91) 22 rfl _ _ v5 W5 rfl rfl hr5 ?_
          refine hK _ _ trivial ?_
          clear hK Kt hr5 hg5 o1 b1 e0
          try simp only [List.getElem_toArray, List.getElem_cons_zero, List.getElem_cons_succ, Act.put, List.setIfInBounds_toArray, List.set_cons_zero, List.set_cons_succ]
          refine wpAnyH_one 6 _ rfl (by kernel_rfl) (by kernel_rfl) ?_
          intro Kt hK
          have hsx : (s.extract n s.size).size = 0 := by rw [ByteArray.size_extract]; have := unhide HN; omega
          obtain ⟨v6, W6, hr6, ho6, hg6⟩ := run_append_Src ho5 22 (some ⟨ab, ao, none⟩) 0 0 (s.extract n s.size) hsx (Src.zero ((unhide HS).keep ((unhide HB2).trans (b5.mono (unhide HB2).size))) _ (by rw [ByteArray.size_extract]; have := unhide HN; omega)) (fun _ => rfl) (by have := unhide HLN; have hq : (L (⟨#[10]⟩ : ByteArray)).length = 1 := rfl; rw [List.length_append, hq]; omega) b5.size
          have b6 : Below w2.heap.size w2 W6 := b5.grown hg6 b5.size (own_lt ho5)
          refine wp_append (.tmp 92) (.tmp 95) 22 rfl _ _ v6 W6 rfl rfl hr6 ?_
          refine hK _ _ trivial ?_
          clear hK Kt hr6 hg6 b5 ho5
          try simp only [List.getElem_toArray, List.getElem_cons_zero, List.getElem_cons_succ, Act.put, List.setIfInBounds_toArray, List.set_cons_zero, List.set_cons_succ]
          refine wpAnyH_one 7 _ rfl (by kernel_rfl) (by kernel_rfl) ?_
          intro Kt hK
          go_simp
          refine hK _ _ trivial ?_
          clear hK Kt
          try simp only [List.getElem_toArray, List.getElem_cons_zero, List.getElem_cons_succ, Act.put, List.setIfInBounds_toArray, List.set_cons_zero, List.set_cons_succ]
          refine wpAnyH_chainOf [] _ _ _ (by kernel_rfl) (by kernel_rfl) ?_
          refine wpChain_nil ?_
          have hxl : ((L s).take n ++ 35 :: plainB (L r)) ++ L (⟨#[10]⟩ : ByteArray) ++ L (s.extract n s.size) = (L s).take n ++ Lx.insC (plainB (L r)) ((L s).drop n) := by
            rw [L_tail, show L (⟨#[10]⟩ : ByteArray) = [10] from rfl]
            unfold Lx.insC
            simp
          rw [hxl] at ho6
          have HO6 := hide ho6; have HB6 := hide b6
          clear hxl ho6 b6 hsx hSW HW
          have hxle : ((L s).take n ++ Lx.insC (plainB (L r)) ((L s).drop n)).length ≤ 9000 := by have q1 := unhide HLN; have q2 := unhide HN; have q3 := len_ins (L s) (plainB (L r)) n; rw [L_len] at q3; exact Nat.le_trans q3 (by omega)
          obtain ⟨X, hX⟩ : ∃ X, X = ((L s).take n ++ Lx.insC (plainB (L r)) ((L s).drop n)) := ⟨_, rfl⟩
          rw [← hX] at HO6 hxle HINS
          have hHT := (unhide HT).keep ((unhide HB2).trans ((unhide HB6).mono (unhide HB2).size))
          obtain ⟨A6, c6, rfl, hsrc, hbc⟩ := own_src (unhide HO6)
          obtain ⟨n6, hn6⟩ : ∃ n6, X.length = n6 := ⟨_, rfl⟩
          have htk6 := tokens_src A6 n6 c6 ⟨X.toArray⟩ W6 (by show X.toArray.size = n6; simpa using hn6) (by omega) hsrc hHT
          rw [L_mk] at htk6
          rw [hn6]
          have HTK6 := hide htk6
          clear hX hxle hHT hsrc hbc hn6 htk6
          go_wp2_with fail
          refine (unhide HTK6).mono ?_; rintro e w7 ⟨A7, c7, B7, d7, rfl, hA7, hc7, _, _, hb7⟩
          have hbT := (unhide HB6).trans (hb7.mono (unhide HB6).size)
          have hal := alike_eq (some ⟨b2, o2, none⟩) A7 c2 c7 nT (Lx.toks (L s)).1 (Lx.toks X).1 w7 (unhide HNT) (unhide HINS).symm ((unhide HA2).keep hbT) hA7 (by omega)
          have e7 : (Lx.toks X).1.length = nT := by have := congrArg List.length (unhide HINS); simp only [List.length_map] at this; have := unhide HNT; omega
          have HAL := hide hal; have HB7 := hide ((unhide HB2).trans (hbT.mono (unhide HB2).size))
          rw [e7]
          generalize (Lx.toks X).2.length = nb7
          clear hA7 hc7 hb7 hbT hal e7
          go_wp2_with fail
          refine (unhide HAL).mono ?_; rintro e w8 ⟨rfl, hb8⟩
          have HB8 := hide (thenB (unhide HB7) hb8)
          clear hb8
          go_wp2_with fail
          go_ret
          exact ⟨by simp, unhide HB8⟩
        · have hskip := trivial
          refine held (S := AnyW) W HW (by kernel_rfl) ?_
          refine wpAnyH_take (i := 0) (v := ?_) rfl (by kernel_rfl) (by kernel_rfl) (by kernel_rfl) (fun _ _ _ h => h) (Or.inl ⟨by kernel_rfl, ?_⟩) (by assumption) ?_
          rotate_left
          · intro Wt hSt
            go_simp
            try with_reducible rfl
          try simp only [List.getElem_toArray, List.getElem_cons_zero, List.getElem_cons_succ, Act.put, List.setIfInBounds_toArray, List.set_cons_zero, List.set_cons_succ]
          refine wpAnyH_take (i := 3) (v := ?_) rfl (by kernel_rfl) (by kernel_rfl) (by kernel_rfl) (fun _ _ _ h => h) (Or.inl ⟨by kernel_rfl, ?_⟩) (by assumption) ?_
          rotate_left
          · intro Wt hSt
            go_simp
            try with_reducible rfl
          try simp only [List.getElem_toArray, List.getElem_cons_zero, List.getElem_cons_succ, Act.put, List.setIfInBounds_toArray, List.set_cons_zero, List.set_cons_succ]
          refine wpAnyH_take (i := 4) (v := ?_) rfl (by kernel_rfl) (by kernel_rfl) (by kernel_rfl) (fun _ _ _ h => h) (Or.inl ⟨by kernel_rfl, ?_⟩) (by assumption) ?_
          rotate_left
          · intro Wt hSt
            go_simp
            try with_reducible rfl
          try simp only [List.getElem_toArray, List.getElem_cons_zero, List.getElem_cons_succ, Act.put, List.setIfInBounds_toArray, List.set_cons_zero, List.set_cons_succ]
          refine wpAnyH_take (i := 5) (v := ?_) rfl (by kernel_rfl) (by kernel_rfl) (by kernel_rfl) (fun _ _ _ h => h) (Or.inl ⟨by kernel_rfl, ?_⟩) (by assumption) ?_
          rotate_left
          · intro Wt hSt
            go_simp
            try with_reducible rfl
          try simp only [List.getElem_toArray, List.getElem_cons_zero, List.getElem_cons_succ, Act.put, List.setIfInBounds_toArray, List.set_cons_zero, List.set_cons_succ]
          refine wpAnyH_one 1 _ rfl (by kernel_rfl) (by kernel_rfl) ?_
          intro Kt hK
          go_simp
          generalize hX1 : W.alloc _ = W1
          have e0 : Src W1 (some ⟨W.heap.size, 0, none⟩) ⟨#[10]⟩ := by subst hX1; exact src_new W ⟨#[10]⟩ _ _ _ rfl
          have b1 : Below w2.heap.size w2 W1 := by subst hX1; exact ((unhide HBE).trans ((below_named HW).mono (unhide HBE).size)).alloc (Nat.le_trans (unhide HBE).size (below_named HW).size) _
          have o1 : OwnB W1 w2.heap.size u11 ((L s).take k ++ 35 :: plainB (L r)) := by subst hX1; exact World.ownsRow.alloc (OwnB.later (unhide HOW) (below_named HW)) _
          refine hK _ _ trivial ?_
          clear hK Kt hX1
          try simp only [List.getElem_toArray, List.getElem_cons_zero, List.getElem_cons_succ, Act.put, List.setIfInBounds_toArray, List.set_cons_zero, List.set_cons_succ]
          refine wpAnyH_one 2 _ rfl (by kernel_rfl) (by kernel_rfl) ?_
          intro Kt hK
          obtain ⟨v5, W5, hr5, ho5, hg5⟩ := run_append_Src o1 22 (some ⟨W.heap.size, 0, none⟩) 1 1 ⟨#[10]⟩ rfl e0 (fun e => by cases e) (by have := unhide HLN; omega) b1.size
          have b5 : Below w2.heap.size w2 W5 := b1.grown hg5 b1.size (own_lt o1)
          refine wp_append (.tmp 90) (.tmp 91) 22 rfl _ _ v5 W5 rfl rfl hr5 ?_
          refine hK _ _ trivial ?_
          clear hK Kt hr5 hg5 o1 b1 e0
          try simp only [List.getElem_toArray, List.getElem_cons_zero, List.getElem_cons_succ, Act.put, List.setIfInBounds_toArray, List.set_cons_zero, List.set_cons_succ]
          refine wpAnyH_one 6 _ rfl (by kernel_rfl) (by kernel_rfl) ?_
          intro Kt hK
          have hsx : (s.extract k s.size).size = (n - k) := by rw [ByteArray.size_extract]; have := unhide HN; omega
          obtain ⟨v6, W6, hr6, ho6, hg6⟩ := run_append_Src ho5 22 (some ⟨ab, ao + k, none⟩) (n - k) (c - k) (s.extract k s.size) hsx (Src.tail ((unhide HS).keep ((unhide HB2).trans (b5.mono (unhide HB2).size))) k (by have := unhide HN; omega)) (fun e => by cases e) (by have := unhide HLN; have hq : (L (⟨#[10]⟩ : ByteArray)).length = 1 := rfl; rw [List.length_append, hq]; omega) b5.size
          have b6 : Below w2.heap.size w2 W6 := b5.grown hg6 b5.size (own_lt ho5)
          refine wp_append (.tmp 92) (.tmp 95) 22 rfl _ _ v6 W6 rfl rfl hr6 ?_
          refine hK _ _ trivial ?_
          clear hK Kt hr6 hg6 b5 ho5
          try simp only [List.getElem_toArray, List.getElem_cons_zero, List.getElem_cons_succ, Act.put, List.setIfInBounds_toArray, List.set_cons_zero, List.set_cons_succ]
          refine wpAnyH_one 7 _ rfl (by kernel_rfl) (by kernel_rfl) ?_
          intro Kt hK
          go_simp
          refine hK _ _ trivial ?_
          clear hK Kt
          try simp only [List.getElem_toArray, List.getElem_cons_zero, List.getElem_cons_succ, Act.put, List.setIfInBounds_toArray, List.set_cons_zero, List.set_cons_succ]
          refine wpAnyH_chainOf [] _ _ _ (by kernel_rfl) (by kernel_rfl) ?_
          refine wpChain_nil ?_
          have hxl : ((L s).take k ++ 35 :: plainB (L r)) ++ L (⟨#[10]⟩ : ByteArray) ++ L (s.extract k s.size) = (L s).take k ++ Lx.insC (plainB (L r)) ((L s).drop k) := by
            rw [L_tail, show L (⟨#[10]⟩ : ByteArray) = [10] from rfl]
            unfold Lx.insC
            simp
          rw [hxl] at ho6
          have HO6 := hide ho6; have HB6 := hide b6
          clear hxl ho6 b6 hsx hSW HW
          have hxle : ((L s).take k ++ Lx.insC (plainB (L r)) ((L s).drop k)).length ≤ 9000 := by have q1 := unhide HLN; have q2 := unhide HN; have q3 := len_ins (L s) (plainB (L r)) k; rw [L_len] at q3; exact Nat.le_trans q3 (by omega)
          obtain ⟨X, hX⟩ : ∃ X, X = ((L s).take k ++ Lx.insC (plainB (L r)) ((L s).drop k)) := ⟨_, rfl⟩
          rw [← hX] at HO6 hxle HINS
          have hHT := (unhide HT).keep ((unhide HB2).trans ((unhide HB6).mono (unhide HB2).size))
          obtain ⟨A6, c6, rfl, hsrc, hbc⟩ := own_src (unhide HO6)
          obtain ⟨n6, hn6⟩ : ∃ n6, X.length = n6 := ⟨_, rfl⟩
          have htk6 := tokens_src A6 n6 c6 ⟨X.toArray⟩ W6 (by show X.toArray.size = n6; simpa using hn6) (by omega) hsrc hHT
          rw [L_mk] at htk6
          rw [hn6]
          have HTK6 := hide htk6
          clear hX hxle hHT hsrc hbc hn6 htk6
          go_wp2_with fail
          refine (unhide HTK6).mono ?_; rintro e w7 ⟨A7, c7, B7, d7, rfl, hA7, hc7, _, _, hb7⟩
          have hbT := (unhide HB6).trans (hb7.mono (unhide HB6).size)
          have hal := alike_eq (some ⟨b2, o2, none⟩) A7 c2 c7 nT (Lx.toks (L s)).1 (Lx.toks X).1 w7 (unhide HNT) (unhide HINS).symm ((unhide HA2).keep hbT) hA7 (by omega)
          have e7 : (Lx.toks X).1.length = nT := by have := congrArg List.length (unhide HINS); simp only [List.length_map] at this; have := unhide HNT; omega
          have HAL := hide hal; have HB7 := hide ((unhide HB2).trans (hbT.mono (unhide HB2).size))
          rw [e7]
          generalize (Lx.toks X).2.length = nb7
          clear hA7 hc7 hb7 hbT hal e7
          go_wp2_with fail
          refine (unhide HAL).mono ?_; rintro e w8 ⟨rfl, hb8⟩
          have HB8 := hide (thenB (unhide HB7) hb8)
          clear hb8
          go_wp2_with fail
          go_ret
          exact ⟨by simp, unhide HB8⟩
end Go.Proofs.YtjppjbkndfbnhaaDoor
