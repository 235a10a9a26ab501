/- Contracts over the digest's program: what the check of a growth calculates; its closure next. -/
import Derived.Test.YtceppmajbkmbdaaDoorDigGrow
import Derived.Test.YtceppmajbkmbdaaDoorDigGrew1
namespace Go.Proofs.YtceppmajbkmbdaaDoor
set_option linter.unusedSimpArgs false
set_option linter.unusedVariables false
open Go.RowKit

/-- the digests of the first n and of all m elements, and what is left of the growth -/
def verP (bf : List Int) (n m : Nat) (whole : Bool) (p : List (List Int)) : List Int × List Int × List (List Int) :=
  if h : m ≤ n ∨ m ≤ 1 then (if whole then (bf, bf, p) else (p.headD [], p.headD [], p.tail))
  else if n ≤ halfN m then
    ((verP bf n (halfN m) whole p).1, nodeP (verP bf n (halfN m) whole p).2.1 ((verP bf n (halfN m) whole p).2.2.headD []), (verP bf n (halfN m) whole p).2.2.tail)
  else
    (nodeP ((verP bf (n - halfN m) (m - halfN m) false p).2.2.headD []) (verP bf (n - halfN m) (m - halfN m) false p).1, nodeP ((verP bf (n - halfN m) (m - halfN m) false p).2.2.headD []) (verP bf (n - halfN m) (m - halfN m) false p).2.1, (verP bf (n - halfN m) (m - halfN m) false p).2.2.tail)
termination_by m
decreasing_by
  all_goals first | exact halfN_lt (by omega) | (have := halfN_pos m; omega)
theorem verP_whole (bf : List Int) (n : Nat) (p : List (List Int)) : verP bf n n true p = (bf, bf, p) := by rw [verP, dif_pos (Or.inl (Nat.le_refl _))]; rfl
theorem verP_leaf (bf : List Int) (n : Nat) (d : List Int) (p : List (List Int)) : verP bf n n false (d :: p) = (d, d, p) := by rw [verP, dif_pos (Or.inl (Nat.le_refl _))]; rfl
theorem verP_left (bf : List Int) {n m : Nat} (whole : Bool) {p : List (List Int)} (h1 : 1 ≤ n) (h : n < m) (ha : n ≤ halfN m) {x y z : List Int} {r : List (List Int)} (e : verP bf n (halfN m) whole p = (x, y, z :: r)) : verP bf n m whole p = (x, nodeP y z, r) := by
  rw [verP, dif_neg (by omega), if_pos ha, e]; rfl
theorem verP_right (bf : List Int) {n m : Nat} (whole : Bool) {p : List (List Int)} (h1 : 1 ≤ n) (h : n < m) (ha : ¬ n ≤ halfN m) {x y z : List Int} {r : List (List Int)} (e : verP bf (n - halfN m) (m - halfN m) false p = (x, y, z :: r)) : verP bf n m whole p = (nodeP z x, nodeP z y, r) := by
  rw [verP, dif_neg (by omega), if_neg ha, e]; rfl
theorem verP_len (bf : List Int) (hbf : Dg bf) (m : Nat) : ∀ (n : Nat) (whole : Bool) (p : List (List Int)), 1 ≤ n → n ≤ m → gLen n m whole ≤ p.length → (∀ d ∈ p, Dg d) →
    ∃ x y r, verP bf n m whole p = (x, y, r) ∧ Dg x ∧ Dg y ∧ (∀ d ∈ r, Dg d) ∧ r.length + gLen n m whole = p.length := by
  induction m using Nat.strongRecOn with
  | _ m IH =>
    intro n whole p h1 hn hl hd
    by_cases h : n = m
    · subst h
      rw [gLen_end] at hl ⊢
      cases whole
      · match p, hl, hd with
        | d :: p, _, hd => exact ⟨d, d, p, verP_leaf bf n d p, hd d List.mem_cons_self, hd d List.mem_cons_self, fun x hx => hd x (List.mem_cons_of_mem _ hx), by simp⟩
      · exact ⟨bf, bf, p, verP_whole bf n p, hbf, hbf, hd, by simp⟩
    · have hk := halfN_lt (n := m) (by omega)
      have hk0 := halfN_pos m
      by_cases ha : n ≤ halfN m
      · rw [gLen_left whole h1 (by omega) ha] at hl ⊢
        obtain ⟨x, y, r, e, hx, hy, hr, hlr⟩ := IH (halfN m) hk n whole p h1 ha (by omega) hd
        match r, hr, hlr, e with
        | [], _, hlr, _ => simp at hlr; omega
        | z :: r, hr, hlr, e => exact ⟨x, nodeP y z, r, verP_left bf whole h1 (by omega) ha e, hx, dg_hash _, fun d hd => hr d (List.mem_cons_of_mem _ hd), by simp at hlr; omega⟩
      · rw [gLen_right whole h1 (by omega) ha] at hl ⊢
        obtain ⟨x, y, r, e, hx, hy, hr, hlr⟩ := IH (m - halfN m) (by omega) (n - halfN m) false p (by omega) (by omega) (by omega) hd
        match r, hr, hlr, e with
        | [], _, hlr, _ => simp at hlr; omega
        | z :: r, hr, hlr, e => exact ⟨nodeP z x, nodeP z y, r, verP_right bf whole h1 (by omega) ha e, dg_hash _, dg_hash _, fun d hd => hr d (List.mem_cons_of_mem _ hd), by simp at hlr; omega⟩
theorem half_same {n m : Nat} (h1 : 1 ≤ m) (hn : n ≤ m) (ha : halfN m < n) : halfN n = halfN m := by
  have h2 : 2 ≤ m := by
    by_cases h : 2 ≤ m
    · exact h
    · have := halfN_pos m; omega
  have hge := halfN_ge h2
  have hp := halfN_pos m
  unfold halfN at *
  have e : Nat.log2 (n - 1) = Nat.log2 (m - 1) := (Nat.log2_eq_iff (by omega)).2 ⟨by omega, by rw [Nat.pow_succ]; omega⟩
  rw [e]
theorem verP_grow (m : Nat) : ∀ (l : List (List Int)) (n : Nat) (whole : Bool) (bf : List Int) (e : List (List Int)), l.length = m → 1 ≤ n → n ≤ m → (whole = true → bf = treeP (l.take n)) → verP bf n m whole (growP l n whole ++ e) = (treeP (l.take n), treeP l, e) := by
  induction m using Nat.strongRecOn with
  | _ m IH =>
    intro l n whole bf e hl h1 hn hw
    by_cases h : n = m
    · subst h
      have ht : l.take n = l := List.take_of_length_le (by omega)
      rw [← hl, growP_end, hl]
      cases whole
      · rw [ht]; exact verP_leaf bf n _ e
      · rw [ht] at hw ⊢
        rw [hw rfl]
        exact verP_whole _ n e
    · have hk := halfN_lt (n := m) (by omega)
      have hk0 := halfN_pos m
      by_cases ha : n ≤ halfN m
      · have hlt : (l.take (halfN m)).length = halfN m := by simp; omega
        have eg := growP_left (l := l) whole h1 (by omega) (hl ▸ ha)
        rw [hl] at eg
        have hi := IH (halfN m) hk (l.take (halfN m)) n whole bf (treeP (l.drop (halfN m)) :: e) hlt h1 ha (fun hw' => by rw [hw hw', List.take_take, Nat.min_eq_left ha])
        rw [eg, List.append_assoc, List.singleton_append]
        rw [List.take_take, Nat.min_eq_left ha] at hi
        rw [verP_left bf whole h1 (by omega) ha hi, treeP_more l (by omega), hl]
      · have hld : (l.drop (halfN m)).length = m - halfN m := by simp; omega
        have eg := growP_right (l := l) whole h1 (by omega) (hl ▸ ha)
        rw [hl] at eg
        have hi := IH (m - halfN m) (by omega) (l.drop (halfN m)) (n - halfN m) false bf (treeP (l.take (halfN m)) :: e) hld (by omega) (by omega) (fun hw' => by cases hw')
        rw [eg, List.append_assoc, List.singleton_append]
        rw [verP_right bf whole h1 (by omega) ha hi]
        have hh : halfN (l.take n).length = halfN m := by
          rw [List.length_take, hl, Nat.min_eq_left hn]
          exact half_same (by omega) hn (by omega)
        rw [treeP_more l (by omega), hl, treeP_more (l.take n) (by simp; omega), hh, List.take_take, Nat.min_eq_left (by omega), List.drop_take]

/-- a box that holds a slice of digests of the caller -/
structure QB (B P : Nat) (w : World) (p : List (List Int)) : Prop where
  ex : ∃ A c, PB w P (.slice A p.length c) ∧ p.length ≤ c ∧ Ds w A p ∧ (p ≠ [] → Low B P A)
theorem GK.ds2 {base P : Nat} {w w' : World} (h : GK base P w w') {A : Option Addr} {l : List (List Int)} (ho : Ds w A l) (hA : l ≠ [] → Low base P A) : Ds w' A l :=
  ⟨ho.dg, fun hl => (h.ds ho (hA hl)).at_ hl⟩
theorem QB.later {B P : Nat} {w w' : World} {p : List (List Int)} (h : QB B P w p) (hb : Below w.heap.size w w') : QB B P w' p := by
  obtain ⟨A, c, h1, h2, h3, h4⟩ := h.ex
  exact ⟨A, c, h1.later hb, h2, h3.keep hb, h4⟩
theorem QB.grown {B P : Nat} {w w' : World} {p : List (List Int)} (h : QB B P w p) {N : Nat} (hg : w.grownBy w' (some N)) (hB : B ≤ w.heap.size) (hN : B ≤ N) (hP : P < B) : QB B P w' p := by
  obtain ⟨A, c, h1, h2, h3, h4⟩ := h.ex
  exact ⟨A, c, h1.grown hg (fun k hk => by injection hk with hk; omega), h2, GK.ds2 (GK.grown hB hg (fun k hk => by injection hk with hk; exact .inl (by omega))) h3 h4, h4⟩

set_option maxRecDepth 100000 in
set_option maxHeartbeats 2000000 in
theorem next_any (B P : Nat) (w : World) (d : List Int) (r : List (List Int)) (h : QB B P w (d :: r)) (hB : B ≤ w.heap.size) (hPB : P < B) (hlen : r.length ≤ 100000000) :
    Calls Tryd.prog 61 #[.pointer (some ⟨P, 0, none⟩)] w fun x w' => x = .returned (dv d) ∧ GK w.heap.size P w w' ∧ QB B P w' r := by
  obtain ⟨A, c, hp, hc, hds, hlow0⟩ := h.ex
  have hlow := hlow0 (by simp)
  clear hlow0
  obtain ⟨b, o, rfl, hrg⟩ := hds.at_ (by simp)
  have hr0 := hrg 0 d rfl
  rw [Nat.zero_mul, Nat.add_zero] at hr0
  obtain ⟨hb1, hb2⟩ := hlow _ rfl
  have hgd := hds.dg d List.mem_cons_self
  obtain ⟨n, hn⟩ : ∃ n, n = r.length := ⟨_, rfl⟩
  rw [List.length_cons, ← hn] at hp hc
  obtain ⟨n1, hn1⟩ : ∃ z, z = n + 1 := ⟨_, rfl⟩
  rw [← hn1] at hp hc
  have hcP := hp.cell
  have hcF := hp.free
  have HP := hide hp; have HDS := hide hds; have HR0 := hide hr0; have HGD := hide hgd; have HLOW := hide hlow
  have HN : Hid (n1 = r.length + 1 ∧ n1 ≤ c ∧ n1 ≤ 100000001 ∧ b < B ∧ b ≠ P ∧ P < B ∧ B ≤ w.heap.size) := ⟨by omega, hc, by omega, hb1, hb2, hPB, hB⟩
  obtain ⟨cd, hcd⟩ : ∃ cs, cs = (d.map (Value.int .u8)).toArray := ⟨_, rfl⟩
  have hsd : cd.size = 32 := by rw [hcd]; simpa using hgd.len
  have HCD := hide hcd
  have i0 : (0 : Int) < (n1 : Int) := by omega
  have i00 : 0 < n1 := by omega
  have i01 : 1 ≤ n1 := by omega
  have i02 : 1 ≤ c := by omega
  have i1 : (1 : Int) ≤ (n1 : Int) := by omega
  have i2 : (1 : Int) ≤ (c : Int) := by omega
  have i3 : (n1 : Int) ≤ (c : Int) := by omega
  clear h hc hds hlow hrg hr0 hb1 hb2 hgd hn hn1 hcd hB hPB hlen hp
  go_enter Tryd.func61, Tryd.ntmps61
  go_upto_region 1 with fail
  generalize hX1 : w.alloc _ = W1
  have hB1 : Below w.heap.size w W1 := hX1 ▸ (Below.refl _ _).alloc (Nat.le_refl _) _
  have HO1 := hide (newBy w W1 (by rw [← hX1]; rfl))
  have hcP1 := ((unhide HP).later hB1).cell
  have HP1 := hide ((unhide HP).later hB1)
  have HB1 := hide hB1
  have HR1 := hide (rangeAt_keep (unhide HR0) hB1)
  clear hX1 hB1 hcP hcF
  refine wp_region_lit ?_
  refine wpList_plain rfl fun Kt hKt => ?_
  go_simp
  refine hKt _ _ ?_
  clear hKt Kt
  refine wpList_plain rfl fun Kt hKt => ?_
  go_simp
  refine hKt _ _ ?_
  clear hKt Kt
  refine wpList_load_mid rfl 24 (.tmp 4) rfl b o rfl (d.map (Value.int .u8)) _ (unhide HR1) Tryd.underlying24 rfl (by rw [List.length_map, (unhide HGD).len]; exact info32) ?_
  rw [show Value.agg (d.map (Value.int .u8)).toArray = .agg cd by rw [unhide HCD]]
  try simp only [List.getElem_toArray, List.getElem_cons_zero, List.getElem_cons_succ, Act.put, List.setIfInBounds_toArray, List.set_cons_zero, List.set_cons_succ]
  refine wpList_plain rfl fun Kt hKt => ?_
  go_simp
  refine hKt _ _ ?_
  clear hKt Kt
  generalize hX2 : W1.alloc _ = W2
  have hB2 : Below W1.heap.size W1 W2 := hX2 ▸ (Below.refl _ _).alloc (Nat.le_refl _) _
  have HN2 := hide (newBy W1 W2 (by rw [← hX2]; rfl))
  have HB2 := hide (thenB (unhide HB1) hB2)
  have HO2 := hide ((unhide HO1).keep hB2)
  have HP2 := hide ((unhide HP1).later hB2)
  have HZ : Hid (w.heap.size < W1.heap.size) := lt_of_block (unhide HO1)
  clear hX2 hB2 hcP1 HO1 HP1 HB1
  refine wpList_bstore rfl 24 (.tmp 2) (.tmp 5) rfl W1.heap.size rfl d (show Value.agg cd = _ by rw [unhide HCD]) 32 info32 (unhide HGD).len _ zeros (unhide HN2) rfl ?_
  intro W3 HW3 HG3
  have HB3 := hide ((unhide HB2).grown (unhide HG3) (unhide HB2).size (fun i e => by injection e with e; have := unhide HZ; omega))
  have HO3 := hide ((unhide HO2).grown (unhide HG3) (by have := unhide HZ; omega))
  have HP3 := hide ((unhide HP2).grown (unhide HG3) (fun k hk => by injection hk with hk; have := unhide HZ; have := unhide HN; omega))
  have hcP := (unhide HP3).cell
  have hcF := (unhide HP3).free
  clear HG3 HB2 HO2 HP2 HN2
  have key : ∀ (A' : Option Addr) (c' : Nat), Ds (W3.setCell ⟨P, 0, none⟩ (.slice A' (n1 - 1) c')) A' r → Low B P A' → n1 - 1 ≤ c' → ∀ W9, (W3.setCell ⟨P, 0, none⟩ (.slice A' (n1 - 1) c')).grownBy W9 (some w.heap.size) → GK w.heap.size P w W9 ∧ QB B P W9 r := fun A' c' hd' hl' hc' W9 hg => by
    have hN := unhide HN
    have hz := unhide HZ
    have hsz : (W3.setCell ⟨P, 0, none⟩ (.slice A' (n1 - 1) c')).heap.size = W3.heap.size := by show (W3.heap.modify P _).size = _; simp
    have hB' : B ≤ (W3.setCell ⟨P, 0, none⟩ (.slice A' (n1 - 1) c')).heap.size := by rw [hsz]; have := (unhide HB3).size; omega
    have hF : w.heap.size ≤ (W3.setCell ⟨P, 0, none⟩ (.slice A' (n1 - 1) c')).heap.size := by rw [hsz]; exact (unhide HB3).size
    refine ⟨((GK.below (Nat.le_refl _) (unhide HB3)).trans (PB.gk _)).trans (GK.grown hF hg (fun k hk => by injection hk with hk; exact .inl (by omega))), QB.grown ⟨A', c', ?_, by omega, hd', fun _ => hl'⟩ hg hB' (by omega) hN.2.2.2.2.2.1⟩
    have := (unhide HP3).put (.slice A' (n1 - 1) c')
    rwa [show n1 - 1 = r.length by omega] at this ⊢
  have KEY := hide key
  have hdr : Ds W3 (some ⟨b, o + 1 * 32, none⟩) r := by
    have := ((unhide HDS).drop 1).keep (unhide HB3)
    simpa using this
  have hdr2 : ∀ v, Ds (W3.setCell ⟨P, 0, none⟩ v) (some ⟨b, o + 1 * 32, none⟩) r := fun v => (PB.gk (base := B) v).ds hdr (fun a e => by injection e with e; subst e; exact ⟨(unhide HN).2.2.2.1, (unhide HN).2.2.2.2.1⟩)
  have HDR := hide hdr2
  clear key hdr hdr2 HDS
  by_cases hc1 : c = 1
  · have hr : r = [] := List.length_eq_zero_iff.1 (by have := unhide HN; omega)
    have HR := hide hr
    subst hc1
    clear hr
    go_upto_region 3 with fail
    have hkey := (unhide KEY) (some ⟨b, o, none⟩) (0) (by rw [unhide HR]; exact Ds.nil) (unhide HLOW) (by have := unhide HN; omega)
    have hd9 : ByAt (W3.setCell ⟨P, 0, none⟩ (.slice (some ⟨b, o, none⟩) (n1 - 1) (0))) W1.heap.size 24 d := (heap_setCell_other W3 _ _ _ (by show W1.heap.size ≠ P; have := unhide HN; have := unhide HZ; omega)).trans (unhide HW3)
    have hz9 : ByAt (W3.setCell ⟨P, 0, none⟩ (.slice (some ⟨b, o, none⟩) (n1 - 1) (0))) w.heap.size 24 zeros := (heap_setCell_other W3 _ _ _ (by show w.heap.size ≠ P; have := unhide HN; omega)).trans (unhide HO3)
    generalize hU : W3.setCell _ _ = U at hkey hd9 hz9 ⊢
    have HKEY := hide hkey; have HD9 := hide hd9; have HZ9 := hide hz9
    clear hU hkey hd9 hz9
    refine wp_region_lit ?_
    refine wpList_bload rfl 24 (.tmp 2) rfl W1.heap.size rfl _ Tryd.underlying24 rfl 32 info32 _ d (unhide HD9) (unhide HGD).len ?_
    refine wpList_bstore rfl 24 (.tmp 1) (.tmp 8) rfl w.heap.size rfl d rfl 32 info32 (unhide HGD).len _ zeros (unhide HZ9) rfl ?_
    intro W9 HW9 HG9
    rw [show dv d = .agg cd by rw [unhide HCD]]
    go_wp2_with fail
    try simp only [Exit.inBlock, Exit.then]
    exact bret rfl rfl w.heap.size rfl _ _ (unhide HW9) (unhide HGD).len ⟨rfl, (unhide HKEY) W9 (unhide HG9)⟩
  · go_upto_region 3 with fail
    have hkey := (unhide KEY) (some ⟨b, o + 32, none⟩) (c - 1) ((unhide HDR) _) (fun a e => by injection e with e; subst e; exact (unhide HLOW) ⟨b, o, none⟩ rfl) (by have := unhide HN; omega)
    have hd9 : ByAt (W3.setCell ⟨P, 0, none⟩ (.slice (some ⟨b, o + 32, none⟩) (n1 - 1) (c - 1))) W1.heap.size 24 d := (heap_setCell_other W3 _ _ _ (by show W1.heap.size ≠ P; have := unhide HN; have := unhide HZ; omega)).trans (unhide HW3)
    have hz9 : ByAt (W3.setCell ⟨P, 0, none⟩ (.slice (some ⟨b, o + 32, none⟩) (n1 - 1) (c - 1))) w.heap.size 24 zeros := (heap_setCell_other W3 _ _ _ (by show w.heap.size ≠ P; have := unhide HN; omega)).trans (unhide HO3)
    generalize hU : W3.setCell _ _ = U at hkey hd9 hz9 ⊢
    have HKEY := hide hkey; have HD9 := hide hd9; have HZ9 := hide hz9
    clear hU hkey hd9 hz9
    refine wp_region_lit ?_
    refine wpList_bload rfl 24 (.tmp 2) rfl W1.heap.size rfl _ Tryd.underlying24 rfl 32 info32 _ d (unhide HD9) (unhide HGD).len ?_
    refine wpList_bstore rfl 24 (.tmp 1) (.tmp 8) rfl w.heap.size rfl d rfl 32 info32 (unhide HGD).len _ zeros (unhide HZ9) rfl ?_
    intro W9 HW9 HG9
    rw [show dv d = .agg cd by rw [unhide HCD]]
    go_wp2_with fail
    try simp only [Exit.inBlock, Exit.then]
    exact bret rfl rfl w.heap.size rfl _ _ (unhide HW9) (unhide HGD).len ⟨rfl, (unhide HKEY) W9 (unhide HG9)⟩
end Go.Proofs.YtceppmajbkmbdaaDoor
