/- Contracts over the digest's program: Path. -/
import Derived.Test.YtceppmajbkmbdaaDoorDigRev
import Derived.Test.YtceppmajbkmbdaaDoorDigBad
import Derived.Test.YtceppmajbkmbdaaDoorDigSane
namespace Go.Proofs.YtceppmajbkmbdaaDoor
set_option linter.unusedSimpArgs false
set_option linter.unusedVariables false
open Go.RowKit

theorem OwnD.down {w : World} {base base' : Nat} {v : Value} {p : List (List Int)} (h : OwnD w base v p) (hb : base' ≤ base) : OwnD w base' v p :=
  ⟨h.1, h.2.imp id fun ⟨g, cap, cur, e, h1, r⟩ => ⟨g, cap, cur, e, Nat.le_trans hb h1, r⟩⟩
/-- the path of an element, from the element to the list's digest -/
def pathP (l : List (List Int)) (at_ : Nat) : List (List Int) :=
  if h : l.length ≤ 1 then [] else if at_ < halfN l.length then pathP (l.take (halfN l.length)) at_ ++ [treeP (l.drop (halfN l.length))] else pathP (l.drop (halfN l.length)) (at_ - halfN l.length) ++ [treeP (l.take (halfN l.length))]
termination_by l.length
decreasing_by
  · have := halfN_lt (n := l.length) (by omega); simp only [List.length_take]; omega
  · have := halfN_pos l.length; simp only [List.length_drop]; omega
theorem pathP_one {l : List (List Int)} (at_ : Nat) (h : l.length ≤ 1) : pathP l at_ = [] := by rw [pathP, dif_pos h]
theorem pathP_left {l : List (List Int)} {at_ : Nat} (h : 2 ≤ l.length) (ha : at_ < halfN l.length) : pathP l at_ = pathP (l.take (halfN l.length)) at_ ++ [treeP (l.drop (halfN l.length))] := by
  rw [pathP, dif_neg (by omega), if_pos ha]
theorem pathP_right {l : List (List Int)} {at_ : Nat} (h : 2 ≤ l.length) (ha : ¬ at_ < halfN l.length) : pathP l at_ = pathP (l.drop (halfN l.length)) (at_ - halfN l.length) ++ [treeP (l.take (halfN l.length))] := by
  rw [pathP, dif_neg (by omega), if_neg ha]
theorem pathP_spec (n : Nat) : ∀ (l : List (List Int)) (at_ : Nat), l.length = n → at_ < n → (pathP l at_).length = lenP n at_ ∧ (∀ d ∈ pathP l at_, Dg d) ∧ ∀ d, l[at_]? = some d → climbP d n at_ (pathP l at_) = treeP l := by
  induction n using Nat.strongRecOn with
  | _ n IH =>
    intro l at_ hl ha
    by_cases h1 : n = 1
    · obtain ⟨d, rfl⟩ : ∃ d, l = [d] := List.length_eq_one_iff.1 (by omega)
      subst h1
      obtain rfl : at_ = 0 := by omega
      refine ⟨by rw [pathP_one 0 (by simp), lenP_one]; rfl, by rw [pathP_one 0 (by simp)]; simp, fun d' hd' => ?_⟩
      simp only [List.getElem?_cons_zero, Option.some.injEq] at hd'
      subst hd'
      rw [climbP_one, treeP_one]
    · have h2 : 2 ≤ l.length := by omega
      have hk := halfN_lt (n := n) (by omega)
      have hk0 := halfN_pos n
      by_cases hak : at_ < halfN n
      · have hlt : (l.take (halfN n)).length = halfN n := by simp; omega
        obtain ⟨i1, i2, i3⟩ := IH (halfN n) hk (l.take (halfN n)) at_ hlt hak
        have e := pathP_left (l := l) h2 (hl ▸ hak)
        rw [hl] at e
        refine ⟨?_, ?_, fun d hd => ?_⟩
        · rw [e, List.length_append, i1, lenP_left (by omega) hak, List.length_singleton]; omega
        · rw [e]
          intro x hx
          rcases List.mem_append.1 hx with h | h
          · exact i2 x h
          · rw [List.mem_singleton.1 h]; exact dg_tree _
        · have hlast : lastP (pathP l at_) = treeP (l.drop (halfN n)) := by rw [e]; unfold lastP; simp
          have hinit : initP (pathP l at_) = pathP (l.take (halfN n)) at_ := by rw [e]; unfold initP; simp
          rw [climbP_left d _ (by omega) hak, hlast, hinit, i3 d (by rw [List.getElem?_take, if_pos hak]; exact hd), treeP_more l h2, hl]
      · have hld : (l.drop (halfN n)).length = n - halfN n := by simp; omega
        obtain ⟨i1, i2, i3⟩ := IH (n - halfN n) (by omega) (l.drop (halfN n)) (at_ - halfN n) hld (by omega)
        have e := pathP_right (l := l) h2 (hl ▸ hak)
        rw [hl] at e
        refine ⟨?_, ?_, fun d hd => ?_⟩
        · rw [e, List.length_append, i1, lenP_right (by omega) hak, List.length_singleton]; omega
        · rw [e]
          intro x hx
          rcases List.mem_append.1 hx with h | h
          · exact i2 x h
          · rw [List.mem_singleton.1 h]; exact dg_tree _
        · have hlast : lastP (pathP l at_) = treeP (l.take (halfN n)) := by rw [e]; unfold lastP; simp
          have hinit : initP (pathP l at_) = pathP (l.drop (halfN n)) (at_ - halfN n) := by rw [e]; unfold initP; simp
          rw [climbP_right d _ (by omega) hak, hlast, hinit, i3 d (by rw [List.getElem?_drop, show halfN n + (at_ - halfN n) = at_ by omega]; exact hd), treeP_more l h2, hl]

set_option maxRecDepth 100000 in
set_option maxHeartbeats 2000000 in
theorem Path_ok (l : List (List Int)) (at_ : Nat) (A : Option Addr) (c : Nat) (w : World) (hA : Ds w A l) (hc : l.length ≤ c) (h63 : l.length ≤ 100000000) (hat : at_ < l.length) (hT : DTab w) :
    Calls Tryd.prog 17 #[.slice A l.length c, .int .i64 (at_ : Int)] w fun x w' => (∃ v, x = .returned (.tuple #[v, .int .i64 0]) ∧ OwnD w' w.heap.size v (pathP l at_)) ∧ Below w.heap.size w w' := by
  obtain ⟨n, hn⟩ : ∃ n, n = l.length := ⟨_, rfl⟩
  obtain ⟨b, o, rfl, _⟩ := hA.at_ (fun e => by rw [e] at hat; simp at hat)
  rw [← hn] at hc h63 hat ⊢
  have HT := hide hT
  have HA := hide hA
  have HN : Hid (n = l.length ∧ n ≤ c ∧ n ≤ 100000000 ∧ at_ < n) := ⟨hn, hc, h63, hat⟩
  have i1 : ¬ (at_ : Int) < 0 := by omega
  have i2 : ¬ (n : Int) ≤ (at_ : Int) := by omega
  clear hT hA hn hc h63 hat
  go_enter Tryd.func17, Tryd.ntmps17
  go_wp2_with fail
  refine (newHasher_any w (unhide HT)).mono ?_; rintro x W2 ⟨rfl, hB2⟩
  obtain ⟨cs, hcs⟩ : ∃ cs, cs = ((LT ++ NT).map (Value.int .u8)).toArray := ⟨_, rfl⟩
  rw [show dv (LT ++ NT) = .agg cs by rw [hcs]]
  have HCS := hide hcs
  have HB2 := hide hB2
  clear hB2 hcs i1 i2
  dsimp only
  rename_i KK hK
  refine hK _ _ ?_
  clear hK KK
  refine wpList_plain rfl fun Kt hKt => ?_
  go_simp
  refine hKt _ _ ?_
  clear hKt Kt
  generalize hX3 : W2.alloc _ = W3
  have hB3 : Below W2.heap.size W2 W3 := hX3 ▸ (Below.refl _ _).alloc (Nat.le_refl _) _
  have ho3 : ByAt W3 W2.heap.size 64 (List.replicate 64 0) := by
    rw [← hX3]
    show (W2.heap.push _)[W2.heap.size]? = _
    rw [Array.getElem?_push_size]
    rfl
  have HO3 := hide ho3
  have HB3 := hide (thenB (unhide HB2) hB3)
  have HZ : Hid (w.heap.size ≤ W2.heap.size) := (unhide HB2).size
  clear hX3 hB3 ho3
  refine wpList_bstore rfl 64 (.tmp 6) (.tmp 16) rfl W2.heap.size rfl (LT ++ NT) (show Value.agg cs = _ by rw [unhide HCS]) 64 info64 (by simp [LT_length, NT_length]) _ (List.replicate 64 0) (unhide HO3) rfl ?_
  intro W6 HW6 HG6
  have HB6 := hide ((unhide HB3).grown (unhide HG6) (unhide HB3).size (fun i e => by injection e with e; have := unhide HZ; omega))
  have HA6 := hide ((unhide HA).keep (unhide HB6))
  have HT6 := hide ((unhide HT).keep (unhide HB6))
  obtain ⟨hb, hhb⟩ : ∃ hb, hb = W2.heap.size := ⟨_, rfl⟩
  rw [← hhb] at HW6 ⊢
  obtain ⟨total, htot⟩ : ∃ t, t = (pathP l at_).reverse := ⟨_, rfl⟩
  have HTOT := hide htot
  clear HG6 HO3 HB3 HB2 HA hhb htot HZ
  try simp only [List.getElem_toArray, List.getElem_cons_zero, List.getElem_cons_succ, Act.put, List.setIfInBounds_toArray, List.set_cons_zero, List.set_cons_succ]
  go_wp2_with fail
  go_loopg [0, 1, 4] n (fun g y0 y1 y4 wx => ∃ (o' m c' a : Nat) (v : Value) (acc cur : List (List Int)), y0 = .slice (some ⟨b, o', none⟩) m c' ∧ y1 = .int .i64 (a : Int) ∧ y4 = v ∧ cur.length = m ∧ m ≤ c' ∧ a < m ∧ m ≤ g ∧ g ≤ 100000000 ∧ acc.length + m ≤ n ∧
    Ds W6 (some ⟨b, o', none⟩) cur ∧ (∀ d ∈ acc, Dg d) ∧ acc ++ (pathP cur a).reverse = total ∧ OwnD wx W6.heap.size v acc ∧ Below W6.heap.size W6 wx)
  case atStart => exact ⟨o, n, c, at_, _, [], l, rfl, rfl, rfl, (unhide HN).1.symm, (unhide HN).2.1, (unhide HN).2.2.2, Nat.le_refl _, (unhide HN).2.2.1, by simp, unhide HA6, by simp, by rw [List.nil_append, unhide HTOT], World.ownsRow_nil _ _ _ _, Below.refl _ _⟩
  case round =>
    obtain ⟨o', m, c', a, v, acc, cur, rfl, rfl, rfl, hcl, hmc, ham, hmg, hg8, han, hds, hacc, htt, hown, hbel⟩ := hrel
    by_cases h1 : (1 : Int) < (m : Int)
    · obtain ⟨k, hk⟩ : ∃ k, k = halfN m := ⟨_, rfl⟩
      have hkn := halfN_lt (n := m) (by omega)
      have hk0 := halfN_pos m
      rw [← hk] at hkn hk0
      obtain ⟨g, rfl⟩ : ∃ g, gk = g + 1 := ⟨gk - 1, by omega⟩
      have k0 : (0 : Int) ≤ (k : Int) := Int.natCast_nonneg _
      have k1 : (k : Int) ≤ (m : Int) := by omega
      have k2 : (k : Int) ≤ (c' : Int) := by omega
      have k3 : ¬ (c' = k) := by omega
      have k4 : (m : Int) ≤ (c' : Int) := by omega
      have HK : Hid (k = halfN m ∧ 0 < k ∧ k < m ∧ m ≤ g + 1 ∧ g + 1 ≤ 100000000 ∧ a < m ∧ m ≤ c' ∧ acc.length + m ≤ n ∧ cur.length = m) := ⟨hk, hk0, hkn, hmg, hg8, ham, hmc, han, hcl⟩
      have HDS := hide hds
      have HACC := hide hacc
      have HTT := hide htt
      have HOWN := hide hown
      have HBEL := hide hbel
      have hlt : (cur.take k).length = k := by simp; omega
      have hld : (cur.drop k).length = m - k := by simp; omega
      by_cases hak : a < k
      · have a1 : (a : Int) < (k : Int) := by omega
        obtain ⟨T, hTd⟩ : ∃ d, d = treeP (cur.drop k) := ⟨_, rfl⟩
        have hgT : Dg T := hTd ▸ dg_tree _
        obtain ⟨ct, hct⟩ : ∃ cs, cs = (T.map (Value.int .u8)).toArray := ⟨_, rfl⟩
        have hst : ct.size = 32 := by rw [hct]; simpa using hgT.len
        have HF : Hid (Calls Tryd.prog 47 #[.pointer (some ⟨hb, 0, none⟩), .slice (some ⟨b, o' + k * 32, none⟩) (m - k) (c' - k)] wr fun x w' => x = .returned (.agg ct) ∧ Below wr.heap.size wr w') := by
          have := tree_any (cur.drop k) (by omega) (fun e => by rw [e] at hld; simp at hld; omega) wr hb (c' - k) (some ⟨b, o' + k * 32, none⟩) ((hds.drop k).keep hbel) (by omega) ((unhide HW6).keep hbel) ((unhide HT6).keep hbel)
          rw [hld] at this
          refine this.mono ?_
          rintro x w' ⟨rfl, h'⟩
          exact ⟨by rw [hct, hTd], h'⟩
        have hstep : (acc ++ [T]) ++ (pathP (cur.take k) a).reverse = total := by
          have e := pathP_left (l := cur) (at_ := a) (by omega) (by rw [hcl, ← hk]; exact hak)
          rw [hcl, ← hk, ← hTd] at e
          rw [e, List.reverse_append, List.reverse_singleton] at htt
          rw [List.append_assoc]
          exact htt
        have HST := hide hstep
        have HGT := hide hgT
        have HCT := hide hct
        have HAK : Hid (a < k) := hak
        clear hk hkn hk0 hcl hmc ham hmg hg8 han hds hacc htt hown hbel hlt hld hTd hgT hct hstep hak
        go_wp2_with fail
        refine (split_any m (by have := unhide HK; omega) (by have := unhide HK; omega) wr).mono ?_; rintro x W7 ⟨rfl, rfl⟩
        rw [← (unhide HK).1]
        go_wp2_with fail
        refine (unhide HF).mono ?_; rintro x W8 ⟨rfl, hB8⟩
        have HB8 := hide (thenB (unhide HBEL) hB8)
        have HOW8 := hide ((unhide HOWN).later hB8)
        clear hB8
        dsimp only
        rename_i KK hK
        refine hK _ _ ?_
        clear hK KK
        refine wpList_plain rfl fun Kt hKt => ?_
        go_simp
        refine hKt _ _ ?_
        clear hKt Kt
        rw [overwritten hst (by rfl)]
        generalize hY : W8.alloc _ = Y1
        have hBY := hide (hY ▸ (Below.refl _ _).alloc (Nat.le_refl _) _ : Below W8.heap.size W8 Y1)
        have hoY := hide (boxed W8 Y1 T _ (by rw [← hY, unhide HCT]; rfl) : ByAt Y1 W8.heap.size 24 T)
        clear hY
        have hB2 := thenB (unhide HB8) (unhide hBY)
        have hO2 := (unhide HOW8).later (unhide hBY)
        obtain ⟨v3, V3, hr3, hown3, hg3⟩ := run_append_D hO2 26 W8.heap.size 1 T (unhide HGT) (unhide hoY) (by have := unhide HK; have := (unhide HN).2.2.1; omega) hB2.size
        have hS3 := grown_below hB2 hg3 (fun k hk => (hO2.lt k hk).1)
        have HS3 := hide hS3
        have HO3 := hide hown3
        have HACC2 : Hid (∀ d ∈ acc ++ [T], Dg d) := fun d hd => by
          rcases List.mem_append.1 hd with h | h
          · exact (unhide HACC) d h
          · rw [List.mem_singleton.1 h]; exact unhide HGT
        refine wpList_plain rfl fun K hK => ?_
        refine wp_append (.tmp 26) (.tmp 31) 26 rfl _ _ v3 V3 rfl rfl hr3 ?_
        refine hK _ _ ?_
        clear hK K hB2 hO2 hr3 hown3 hg3 hS3 hBY hoY
        try simp only [List.getElem_toArray, List.getElem_cons_zero, List.getElem_cons_succ, Act.put, List.setIfInBounds_toArray, List.set_cons_zero, List.set_cons_succ]
        go_wp2_with fail
        go_roundg g
        case measure => omega
        case rel => have := unhide HK; exact ⟨o', k, c', a, v3, acc ++ [T], cur.take k, rfl, rfl, rfl, by simp; omega, by omega, unhide HAK, by omega, by omega, by simp; omega, (unhide HDS).take k, unhide HACC2, unhide HST, unhide HO3, unhide HS3⟩
      · have a1 : ¬ (a : Int) < (k : Int) := by omega
        obtain ⟨ak, hak2⟩ : ∃ z, z = a - k := ⟨_, rfl⟩
        have wa : IntKind.i64.wrap ((a : Int) - (k : Int)) = (ak : Int) := (IntWalk.i64_in _ (by omega)).trans (by omega)
        obtain ⟨T, hTd⟩ : ∃ d, d = treeP (cur.take k) := ⟨_, rfl⟩
        have hgT : Dg T := hTd ▸ dg_tree _
        obtain ⟨ct, hct⟩ : ∃ cs, cs = (T.map (Value.int .u8)).toArray := ⟨_, rfl⟩
        have hst : ct.size = 32 := by rw [hct]; simpa using hgT.len
        have HF : Hid (Calls Tryd.prog 47 #[.pointer (some ⟨hb, 0, none⟩), .slice (some ⟨b, o', none⟩) k c'] wr fun x w' => x = .returned (.agg ct) ∧ Below wr.heap.size wr w') := by
          have := tree_any (cur.take k) (by omega) (fun e => by rw [e] at hlt; simp at hlt; omega) wr hb c' (some ⟨b, o', none⟩) ((hds.take k).keep hbel) (by omega) ((unhide HW6).keep hbel) ((unhide HT6).keep hbel)
          rw [hlt] at this
          refine this.mono ?_
          rintro x w' ⟨rfl, h'⟩
          exact ⟨by rw [hct, hTd], h'⟩
        have hstep : (acc ++ [T]) ++ (pathP (cur.drop k) ak).reverse = total := by
          have e := pathP_right (l := cur) (at_ := a) (by omega) (by rw [hcl, ← hk]; exact hak)
          rw [hcl, ← hk, ← hTd, ← hak2] at e
          rw [e, List.reverse_append, List.reverse_singleton] at htt
          rw [List.append_assoc]
          exact htt
        have HST := hide hstep
        have HGT := hide hgT
        have HCT := hide hct
        have HAK : Hid (¬ a < k ∧ ak = a - k) := ⟨hak, hak2⟩
        clear hk hkn hk0 hcl hmc ham hmg hg8 han hds hacc htt hown hbel hlt hld hTd hgT hct hstep hak hak2
        go_wp2_with fail
        refine (split_any m (by have := unhide HK; omega) (by have := unhide HK; omega) wr).mono ?_; rintro x W7 ⟨rfl, rfl⟩
        rw [← (unhide HK).1]
        go_wp2_with fail
        refine (unhide HF).mono ?_; rintro x W8 ⟨rfl, hB8⟩
        have HB8 := hide (thenB (unhide HBEL) hB8)
        have HOW8 := hide ((unhide HOWN).later hB8)
        clear hB8
        dsimp only
        rename_i KK hK
        refine hK _ _ ?_
        clear hK KK
        refine wpList_plain rfl fun Kt hKt => ?_
        go_simp
        refine hKt _ _ ?_
        clear hKt Kt
        rw [overwritten hst (by rfl)]
        generalize hY : W8.alloc _ = Y1
        have hBY := hide (hY ▸ (Below.refl _ _).alloc (Nat.le_refl _) _ : Below W8.heap.size W8 Y1)
        have hoY := hide (boxed W8 Y1 T _ (by rw [← hY, unhide HCT]; rfl) : ByAt Y1 W8.heap.size 24 T)
        clear hY
        have hB2 := thenB (unhide HB8) (unhide hBY)
        have hO2 := (unhide HOW8).later (unhide hBY)
        obtain ⟨v3, V3, hr3, hown3, hg3⟩ := run_append_D hO2 26 W8.heap.size 1 T (unhide HGT) (unhide hoY) (by have := unhide HK; have := (unhide HN).2.2.1; omega) hB2.size
        have hS3 := grown_below hB2 hg3 (fun k hk => (hO2.lt k hk).1)
        have HS3 := hide hS3
        have HO3 := hide hown3
        have HACC2 : Hid (∀ d ∈ acc ++ [T], Dg d) := fun d hd => by
          rcases List.mem_append.1 hd with h | h
          · exact (unhide HACC) d h
          · rw [List.mem_singleton.1 h]; exact unhide HGT
        refine wpList_plain rfl fun K hK => ?_
        refine wp_append (.tmp 36) (.tmp 41) 26 rfl _ _ v3 V3 rfl rfl hr3 ?_
        refine hK _ _ ?_
        clear hK K hB2 hO2 hr3 hown3 hg3 hS3 hBY hoY
        try simp only [List.getElem_toArray, List.getElem_cons_zero, List.getElem_cons_succ, Act.put, List.setIfInBounds_toArray, List.set_cons_zero, List.set_cons_succ]
        go_wp2_with fail
        go_roundg g
        case measure => omega
        case rel => have := unhide HK; have := unhide HAK; exact ⟨o' + k * 32, m - k, c' - k, ak, v3, acc ++ [T], cur.drop k, rfl, rfl, rfl, by simp; omega, by omega, by omega, by omega, by omega, by simp; omega, (unhide HDS).drop k, unhide HACC2, unhide HST, unhide HO3, unhide HS3⟩
    · have hm1 : cur.length ≤ 1 := by omega
      rw [pathP_one a hm1, List.reverse_nil, List.append_nil] at htt
      subst htt
      have HACC := hide hacc
      have HOWN := hide hown
      have HBEL := hide hbel
      have HL : Hid (acc.length + m ≤ n ∧ n ≤ 100000000) := ⟨han, (unhide HN).2.2.1⟩
      clear hcl hmc ham hmg hg8 han hds hacc hown hbel hm1
      go_wp2_with fail
      refine (rev_any acc W6.heap.size _ wr (unhide HACC) (unhide HOWN) (by have := unhide HL; omega)).mono ?_; rintro x W7 ⟨rfl, ho7, hg7⟩
      have HO7 := hide ho7
      have HB7 := hide (grown_below (unhide HBEL) hg7 (fun k hk => ((unhide HOWN).lt k hk).1))
      clear ho7 hg7
      go_wp2_with fail
      go_ret2
      refine ⟨⟨_, rfl, ?_⟩, thenB (unhide HB6) (unhide HB7)⟩
      have e : acc.reverse = pathP l at_ := by rw [unhide HTOT, List.reverse_reverse]
      rw [← e]
      exact (unhide HO7).down (unhide HB6).size
end Go.Proofs.YtceppmajbkmbdaaDoor
