/- Contracts over the digest's program: slices.Reverse over digests that the call has made itself. -/
import Derived.Test.YtceppmajbkmbdaaDoorDigApp
import Derived.Test.YtceppmajbkmbdaaDoorDigTwo
namespace Go.Proofs.YtceppmajbkmbdaaDoor
set_option linter.unusedSimpArgs false
set_option linter.unusedVariables false
open Go.RowKit

theorem splice_val (B cs : List Value) (c : Value) (m : Nat) (h : m + (cs.length + 1) ≤ B.length) :
    (B.set m c).take (m + 1) ++ (cs ++ (B.set m c).drop (m + 1 + cs.length)) = B.take m ++ (c :: cs ++ B.drop (m + (cs.length + 1))) := by
  have e1 : (B.set m c).take (m + 1) = B.take m ++ [c] := by
    apply List.ext_getElem?
    intro j
    rw [List.getElem?_take, List.getElem?_set, List.getElem?_append, List.length_take, List.getElem?_take, Nat.min_eq_left (by omega)]
    by_cases hj : j < m
    · rw [if_pos (by omega), if_neg (by omega), if_pos hj, if_pos hj]
    · by_cases hj2 : j = m
      · subst hj2; simp; omega
      · rw [if_neg (by omega), if_neg hj, List.getElem?_eq_none (by simp; omega)]
  have e2 : (B.set m c).drop (m + 1 + cs.length) = B.drop (m + (cs.length + 1)) := by
    apply List.ext_getElem?
    intro j
    rw [List.getElem?_drop, List.getElem?_drop, List.getElem?_set, if_neg (by omega)]
    congr 1
    omega
  rw [e1, e2]
  simp
theorem grown_trans {w w' w'' : World} {r : Option Nat} (h1 : w.grownBy w' r) (h2 : w'.grownBy w'' r) : w.grownBy w'' r := h1.trans h2
theorem own_setCells {base : Nat} {e : TypeId} {size g n cap : Nat} : ∀ (cs : List Value) (m : Nat) (w : World) (xs : List Value), w.ownsRow base e size (.slice (some ⟨g, 0, none⟩) n cap) n xs → m + cs.length ≤ xs.length →
    (w.setCells g m cs).ownsRow base e size (.slice (some ⟨g, 0, none⟩) n cap) n (xs.take m ++ (cs ++ xs.drop (m + cs.length))) ∧ w.grownBy (w.setCells g m cs) (some g)
  | [], m, w, xs, h, _ => by
    have e : w.setCells g m [] = w := rfl
    rw [e]
    exact ⟨by simpa using h, ⟨rfl, rfl, rfl, Nat.le_refl _, fun _ _ _ => rfl⟩⟩
  | c :: cs, m, w, xs, h, hm => by
    simp only [List.length_cons] at hm ⊢
    obtain ⟨h1, g1⟩ := h.stored m c
    obtain ⟨h2, g2⟩ := own_setCells cs (m + 1) _ _ h1 (by simp; omega)
    rw [splice_val xs cs c m hm] at h2
    exact ⟨h2, grown_trans g1 g2⟩
theorem dcells_set : ∀ {p : List (List Int)}, (∀ d ∈ p, Dg d) → ∀ (i : Nat) (d : List Int), Dg d → i < p.length → dcells (p.set i d) = (dcells p).take (i * 32) ++ (d.map (Value.int .u8) ++ (dcells p).drop (i * 32 + (d.map (Value.int .u8)).length))
  | [], _, i, d, _, hi => by simp at hi
  | x :: p, h, 0, d, hd, _ => by
    have e : dcells (x :: p) = x.map (Value.int .u8) ++ dcells p := by simp [dcells]
    have e2 : dcells (d :: p) = d.map (Value.int .u8) ++ dcells p := by simp [dcells]
    have hx := (h x List.mem_cons_self).len
    have hdl := hd.len
    rw [List.set_cons_zero, e, e2, Nat.zero_mul, List.take_zero, List.nil_append, Nat.zero_add, List.length_map, hdl, List.drop_left' (by simpa using hx)]
  | x :: p, h, i + 1, d, hd, hi => by
    have e : dcells (x :: p) = x.map (Value.int .u8) ++ dcells p := by simp [dcells]
    have e2 : dcells (x :: p.set i d) = x.map (Value.int .u8) ++ dcells (p.set i d) := by simp [dcells]
    have hx : (x.map (Value.int .u8)).length = 32 := by simpa using (h x List.mem_cons_self).len
    have hdl : (d.map (Value.int .u8)).length = 32 := by simpa using hd.len
    rw [List.set_cons_succ, e, e2, dcells_set (fun y hy => h y (List.mem_cons_of_mem _ hy)) i d hd (by simpa using hi), hdl]
    have e3 : (x.map (Value.int .u8) ++ dcells p).take ((i + 1) * 32) = x.map (Value.int .u8) ++ (dcells p).take (i * 32) := by
      rw [List.take_append, List.take_of_length_le (l := x.map (Value.int .u8)) (by rw [hx]; omega), hx, show (i + 1) * 32 - 32 = i * 32 by omega]
    have e4 : (x.map (Value.int .u8) ++ dcells p).drop ((i + 1) * 32 + 32) = (dcells p).drop (i * 32 + 32) := by
      rw [List.drop_append, List.drop_eq_nil_of_le (show (x.map (Value.int .u8)).length ≤ (i + 1) * 32 + 32 by rw [hx]; omega), hx, show (i + 1) * 32 + 32 - 32 = i * 32 + 32 by omega, List.nil_append]
    rw [e3, e4, List.append_assoc]
theorem OwnD.set {w : World} {base g n cap : Nat} {p : List (List Int)} (h : OwnD w base (.slice (some ⟨g, 0, none⟩) n cap) p) (hn : p.length = n) (hp : ∀ d ∈ p, Dg d) (i : Nat) (hi : i < p.length) (d : List Int) (hd : Dg d) :
    OwnD (w.setCells g (i * 32) (d.map (Value.int .u8))) base (.slice (some ⟨g, 0, none⟩) n cap) (p.set i d) ∧ w.grownBy (w.setCells g (i * 32) (d.map (Value.int .u8))) (some g) := by
  subst hn
  have hl := dcells_length hp
  have hdl : (d.map (Value.int .u8)).length = 32 := by simpa using hd.len
  obtain ⟨h1, h2⟩ := own_setCells (d.map (Value.int .u8)) (i * 32) w _ h (by omega)
  refine ⟨?_, h2⟩
  unfold OwnD
  rw [List.length_set, dcells_set hp i d hd hi]
  exact h1
theorem OwnD.there {w : World} {base g n cap : Nat} {p : List (List Int)} (h : OwnD w base (.slice (some ⟨g, 0, none⟩) n cap) p) (hn : p.length = n) (hp : ∀ d ∈ p, Dg d) (i : Nat) (hi : i < p.length) : w.there g (i * 32) 32 := fun j hj => by
  subst hn
  have hl := dcells_length hp
  exact ⟨by rw [World.ownsRow.cellAt h (i * 32 + j) (by omega), List.getElem?_eq_getElem (by omega)]; rfl, World.ownsRow.frozenAt h _⟩
theorem OwnD.range {w : World} {base g n cap : Nat} {p : List (List Int)} (h : OwnD w base (.slice (some ⟨g, 0, none⟩) n cap) p) (hn : p.length = n) (hp : ∀ d ∈ p, Dg d) (i : Nat) (d : List Int) (hd : p[i]? = some d) : w.rangeAt g (i * 32) (d.map (Value.int .u8)) := fun j v hv => by
  subst hn
  have hi := (List.getElem?_eq_some_iff.1 hd).1
  have hj := (List.getElem?_eq_some_iff.1 hv).1
  have hd32 : (d.map (Value.int .u8)).length = 32 := by simpa using (hp d (List.mem_of_getElem? hd)).len
  rw [World.ownsRow.cellAt h (i * 32 + j) (by omega)]
  exact dcells_get hp hd hv
theorem grownDrewN {w W : World} (h : Hid (W = w.drewN 1)) (r : Option Nat) : w.grownBy W r := by
  have e : W = w.drewN 1 := h
  subst e
  exact ⟨rfl, rfl, rfl, Nat.le_refl _, fun _ _ _ => rfl⟩
def AnyW (_ : World) : Prop := True

set_option maxRecDepth 100000 in
set_option maxHeartbeats 1000000 in
theorem rev_any (p : List (List Int)) (base : Nat) (v : Value) (w : World) (hp : ∀ d ∈ p, Dg d) (ho : OwnD w base v p) (h63 : p.length ≤ 1000000000) :
    Calls Tryd.prog 52 #[v] w fun x w' => x = .returned (.tuple #[]) ∧ OwnD w' base v p.reverse ∧ w.grownBy w' v.ownBlock := by
  obtain ⟨A, c, rfl, hpc, hds⟩ := ho.ds hp
  obtain ⟨n, hn⟩ : ∃ n, n = p.length := ⟨_, rfl⟩
  rw [← hn] at ho ⊢
  have hA : 0 < n → ∃ g, A = some ⟨g, 0, none⟩ := fun h => by
    rcases ho.2 with ⟨e, _⟩ | ⟨g, cap, cur, e, _⟩
    · injection e with e1 e2 e3; omega
    · injection e with e1; exact ⟨g, e1⟩
  have wl : IntKind.i64.wrap ((n : Int) - 1) = (n : Int) - 1 := IntWalk.i64_in _ (by omega)
  have HO := hide ho
  have HP := hide hp
  have HA := hide hA
  have HN : Hid (n = p.length ∧ n ≤ c ∧ n ≤ 1000000000) := ⟨hn, by omega, by omega⟩
  clear hp ho h63 hpc hds hn hA
  go_enter Tryd.func52, Tryd.ntmps52
  go_wp2_with fail
  go_loopg [2, 3] n (fun g y2 y3 wx => ∃ (i : Nat) (jz : Int) (q : List (List Int)), y2 = .int .i64 (i : Int) ∧ y3 = .int .i64 jz ∧ (i : Int) + jz = (n : Int) - 1 ∧ i ≤ n ∧ n < g + i + 1 ∧ q.length = n ∧ (∀ d ∈ q, Dg d) ∧ OwnD wx base (.slice A n c) q ∧ w.grownBy wx (Value.slice A n c).ownBlock ∧
    (∀ t, t < n → (t < i ∨ jz < (t : Int)) → q[t]? = p[n - 1 - t]?) ∧ (∀ t, i ≤ t → (t : Int) ≤ jz → q[t]? = p[t]?))
  case atStart => exact ⟨0, (n : Int) - 1, p, rfl, rfl, by omega, by omega, by omega, (unhide HN).1.symm, unhide HP, unhide HO, ⟨rfl, rfl, rfl, Nat.le_refl _, fun _ _ _ => rfl⟩, fun t ht h => by rcases h with h | h <;> omega, fun t _ _ => rfl⟩
  case round =>
    obtain ⟨i, jz, q, rfl, rfl, hij, hin, hng, hql, hqd, hown, hgr, hout, hmid⟩ := hrel
    by_cases hlt : (i : Int) < jz
    · obtain ⟨j, rfl⟩ : ∃ j : Nat, jz = (j : Int) := ⟨jz.toNat, by omega⟩
      obtain ⟨g, rfl⟩ : ∃ g, gk = g + 1 := ⟨gk - 1, by omega⟩
      obtain ⟨b, rfl⟩ := (unhide HA) (by omega)
      have hjn : j < n := by omega
      obtain ⟨di, hdi⟩ : ∃ d, q[i]? = some d := ⟨_, List.getElem?_eq_getElem (by omega)⟩
      obtain ⟨dj, hdj⟩ : ∃ d, q[j]? = some d := ⟨_, List.getElem?_eq_getElem (by omega)⟩
      have hgi : Dg di := hqd di (List.mem_of_getElem? hdi)
      have hgj : Dg dj := hqd dj (List.mem_of_getElem? hdj)
      obtain ⟨ci, hci⟩ : ∃ cs, cs = (di.map (Value.int .u8)).toArray := ⟨_, rfl⟩
      obtain ⟨cj, hcj⟩ : ∃ cs, cs = (dj.map (Value.int .u8)).toArray := ⟨_, rfl⟩
      have i0 : (0 : Int) ≤ (i : Int) := Int.natCast_nonneg _
      have j0 : (0 : Int) ≤ (j : Int) := Int.natCast_nonneg _
      have i1 : (i : Int) < (n : Int) := by omega
      have j1 : (j : Int) < (n : Int) := by omega
      have wi : IntKind.i64.wrap ((i : Int) + 1) = ((i + 1 : Nat) : Int) := (IntWalk.i64_in _ (by have := unhide HN; omega)).trans (by omega)
      have wj : IntKind.i64.wrap ((j : Int) - 1) = (j : Int) - 1 := IntWalk.i64_in _ (by have := unhide HN; omega)
      have HQ : Hid ((i : Int) + (j : Int) = (n : Int) - 1 ∧ i ≤ n ∧ n < g + 1 + i + 1 ∧ q.length = n ∧ (∀ d ∈ q, Dg d) ∧ (∀ t, t < n → (t < i ∨ (j : Int) < (t : Int)) → q[t]? = p[n - 1 - t]?) ∧ (∀ t, i ≤ t → (t : Int) ≤ (j : Int) → q[t]? = p[t]?)) := ⟨hij, hin, hng, hql, hqd, hout, hmid⟩
      have HDI : Hid (q[i]? = some di ∧ q[j]? = some dj ∧ Dg di ∧ Dg dj ∧ j < n) := ⟨hdi, hdj, hgi, hgj, hjn⟩
      have HOW := hide hown
      have HGR := hide hgr
      have HCI := hide hci
      have HCJ := hide hcj
      clear hij hin hng hql hqd hown hgr hout hmid hdi hdj hgi hgj hjn hci hcj
      go_wp2_with fail
      obtain ⟨W, hW⟩ : ∃ W, W = wr.drewN 1 := ⟨_, rfl⟩
      have HW : Hid (W = wr.drewN 1) := hW
      have HOW2 := hide ((unhide HOW).later (below_named HW))
      have hSW : AnyW W := trivial
      clear hW
      refine held (S := AnyW) W HW (by kernel_rfl) ?_
      refine wpAnyH_take (i := 0) (v := ?_) rfl (by kernel_rfl) (by kernel_rfl) (by kernel_rfl) (fun _ _ _ h => h) (Or.inl ⟨by kernel_rfl, ?_⟩) (by assumption) ?_
      rotate_left
      · intro Wt hSt
        go_simp
        try with_reducible rfl
      try simp only [List.getElem_toArray, List.getElem_cons_zero, List.getElem_cons_succ, Act.put, List.setIfInBounds_toArray, List.set_cons_zero, List.set_cons_succ]
      refine wpAnyH_take (i := 1) (v := ?_) rfl (by kernel_rfl) (by kernel_rfl) (by kernel_rfl) (fun _ _ _ h => h) (Or.inl ⟨by kernel_rfl, ?_⟩) (by assumption) ?_
      rotate_left
      · intro Wt hSt
        go_simp
        try with_reducible rfl
      try simp only [List.getElem_toArray, List.getElem_cons_zero, List.getElem_cons_succ, Act.put, List.setIfInBounds_toArray, List.set_cons_zero, List.set_cons_succ]
      refine wpAnyH_take (i := 2) (v := ?_) rfl (by kernel_rfl) (by kernel_rfl) (by kernel_rfl) (fun _ _ _ h => h) (Or.inl ⟨by kernel_rfl, ?_⟩) (by assumption) ?_
      rotate_left
      · intro Wt hSt
        go_simp
        try with_reducible rfl
      try simp only [List.getElem_toArray, List.getElem_cons_zero, List.getElem_cons_succ, Act.put, List.setIfInBounds_toArray, List.set_cons_zero, List.set_cons_succ]
      refine wpAnyH_take (i := 3) (v := ?_) rfl (by kernel_rfl) (by kernel_rfl) (by kernel_rfl) (fun _ _ _ h => h) (Or.inl ⟨by kernel_rfl, ?_⟩) (by assumption) ?_
      rotate_left
      · intro Wt hSt
        go_simp
        try with_reducible rfl
      try simp only [List.getElem_toArray, List.getElem_cons_zero, List.getElem_cons_succ, Act.put, List.setIfInBounds_toArray, List.set_cons_zero, List.set_cons_succ]
      refine wpAnyH_take (i := 4) (v := ?_) rfl (by kernel_rfl) (by kernel_rfl) (by kernel_rfl) (fun _ _ _ h => h) (Or.inl ⟨by kernel_rfl, ?_⟩) (by assumption) ?_
      rotate_left
      · intro Wt hSt
        go_simp
        try with_reducible rfl
      try simp only [List.getElem_toArray, List.getElem_cons_zero, List.getElem_cons_succ, Act.put, List.setIfInBounds_toArray, List.set_cons_zero, List.set_cons_succ]
      refine wpAnyH_take (i := 5) (v := ?_) rfl (by kernel_rfl) (by kernel_rfl) (by kernel_rfl) (fun _ _ _ h => h) (Or.inl ⟨by kernel_rfl, ?_⟩) (by assumption) ?_
      rotate_left
      · intro Wt hSt
        go_simp
        try with_reducible rfl
      try simp only [List.getElem_toArray, List.getElem_cons_zero, List.getElem_cons_succ, Act.put, List.setIfInBounds_toArray, List.set_cons_zero, List.set_cons_succ]
      refine wpAnyH_take (i := 6) (v := ?_) rfl (by kernel_rfl) (by kernel_rfl) (by kernel_rfl) (fun _ _ _ h => h) (Or.inl ⟨by kernel_rfl, ?_⟩) (by assumption) ?_
      rotate_left
      · intro Wt hSt
        go_simp
        try with_reducible rfl
      try simp only [List.getElem_toArray, List.getElem_cons_zero, List.getElem_cons_succ, Act.put, List.setIfInBounds_toArray, List.set_cons_zero, List.set_cons_succ]
      refine wpAnyH_take (i := 8) (v := ?_) rfl (by kernel_rfl) (by kernel_rfl) (by kernel_rfl) (fun _ _ _ h => h) (Or.inl ⟨by kernel_rfl, ?_⟩) (by assumption) ?_
      rotate_left
      · intro Wt hSt
        go_simp
        try with_reducible rfl
      try simp only [List.getElem_toArray, List.getElem_cons_zero, List.getElem_cons_succ, Act.put, List.setIfInBounds_toArray, List.set_cons_zero, List.set_cons_succ]
      refine wpAnyH_take (i := 9) (v := ?_) rfl (by kernel_rfl) (by kernel_rfl) (by kernel_rfl) (fun _ _ _ h => h) (Or.inl ⟨by kernel_rfl, ?_⟩) (by assumption) ?_
      rotate_left
      · intro Wt hSt
        go_simp
        try with_reducible rfl
      try simp only [List.getElem_toArray, List.getElem_cons_zero, List.getElem_cons_succ, Act.put, List.setIfInBounds_toArray, List.set_cons_zero, List.set_cons_succ]
      refine wpAnyH_take (i := 10) (v := ?_) rfl (by kernel_rfl) (by kernel_rfl) (by kernel_rfl) (fun _ _ _ h => h) (Or.inl ⟨by kernel_rfl, ?_⟩) (by assumption) ?_
      rotate_left
      · intro Wt hSt
        go_simp
        try with_reducible rfl
      try simp only [List.getElem_toArray, List.getElem_cons_zero, List.getElem_cons_succ, Act.put, List.setIfInBounds_toArray, List.set_cons_zero, List.set_cons_succ]
      refine wpAnyH_two 7 11 _ _ rfl rfl (by kernel_rfl) (by kernel_rfl) (by kernel_rfl) ?_ ?_
      · intro K hK
        refine wp_load_mid 24 (.tmp 20) rfl b (j * 32) rfl (dj.map (Value.int .u8)) _ ((unhide HOW2).range (unhide HQ).2.2.2.1 (unhide HQ).2.2.2.2.1 j dj (unhide HDI).2.1) Tryd.underlying24 rfl (by rw [List.length_map, ((unhide HDI).2.2.2.1).len]; exact info32) ?_
        refine hK _ _ trivial ?_
        clear hK K
        try simp only [List.getElem_toArray, List.getElem_cons_zero, List.getElem_cons_succ, Act.put, List.setIfInBounds_toArray, List.set_cons_zero, List.set_cons_succ]
        refine wpAnyH_one 11 _ rfl (by kernel_rfl) (by kernel_rfl) ?_
        intro K hK
        refine wp_load_mid 24 (.tmp 24) rfl b (i * 32) rfl (di.map (Value.int .u8)) _ ((unhide HOW2).range (unhide HQ).2.2.2.1 (unhide HQ).2.2.2.2.1 i di (unhide HDI).1) Tryd.underlying24 rfl (by rw [List.length_map, ((unhide HDI).2.2.1).len]; exact info32) ?_
        refine hK _ _ trivial ?_
        clear hK K
        try simp only [List.getElem_toArray, List.getElem_cons_zero, List.getElem_cons_succ, Act.put, List.setIfInBounds_toArray, List.set_cons_zero, List.set_cons_succ]
        refine wpAnyH_one 12 _ rfl (by kernel_rfl) (by kernel_rfl) ?_
        intro K hK
        go_simp
        refine hK _ _ trivial ?_
        clear hK K
        try simp only [List.getElem_toArray, List.getElem_cons_zero, List.getElem_cons_succ, Act.put, List.setIfInBounds_toArray, List.set_cons_zero, List.set_cons_succ]
        refine wpAnyH_one 13 _ rfl (by kernel_rfl) (by kernel_rfl) ?_
        intro K hK
        obtain ⟨ho1, hg1⟩ := (unhide HOW2).set (unhide HQ).2.2.2.1 (unhide HQ).2.2.2.2.1 i (by have := unhide HQ; have := unhide HDI; omega) dj (unhide HDI).2.2.2.1
        refine wp_store_mid 24 (.tmp 26) (.tmp 21) rfl b (i * 32) (dj.map (Value.int .u8)).toArray rfl rfl (by rw [List.size_toArray, List.length_map, (unhide HDI).2.2.2.1.len]; exact (unhide HOW2).there (unhide HQ).2.2.2.1 (unhide HQ).2.2.2.2.1 i (by have := unhide HQ; have := unhide HDI; omega)) (by rw [List.size_toArray, List.length_map, (unhide HDI).2.2.2.1.len]; exact info32) (bytes_oneCell dj) ?_
        have HO1 := hide ho1
        have HG1 := hide hg1
        clear ho1 hg1
        generalize hV : W.setCells b (i * 32) _ = V1 at HO1 HG1 ⊢
        clear hV
        refine hK _ _ trivial ?_
        clear hK K
        try simp only [List.getElem_toArray, List.getElem_cons_zero, List.getElem_cons_succ, Act.put, List.setIfInBounds_toArray, List.set_cons_zero, List.set_cons_succ]
        refine wpAnyH_one 14 _ rfl (by kernel_rfl) (by kernel_rfl) ?_
        intro K hK
        go_simp
        refine hK _ _ trivial ?_
        clear hK K
        try simp only [List.getElem_toArray, List.getElem_cons_zero, List.getElem_cons_succ, Act.put, List.setIfInBounds_toArray, List.set_cons_zero, List.set_cons_succ]
        refine wpAnyH_one 15 _ rfl (by kernel_rfl) (by kernel_rfl) ?_
        intro K hK
        have hq1 : ∀ d ∈ q.set i dj, Dg d := fun d hd => by
          rcases List.mem_or_eq_of_mem_set hd with h | rfl
          · exact (unhide HQ).2.2.2.2.1 d h
          · exact (unhide HDI).2.2.2.1
        have hl1 : (q.set i dj).length = n := by rw [List.length_set]; exact (unhide HQ).2.2.2.1
        obtain ⟨ho2, hg2⟩ := (unhide HO1).set hl1 hq1 j (by have := unhide HDI; omega) di (unhide HDI).2.2.1
        refine wp_store_mid 24 (.tmp 27) (.tmp 25) rfl b (j * 32) (di.map (Value.int .u8)).toArray rfl rfl (by rw [List.size_toArray, List.length_map, (unhide HDI).2.2.1.len]; exact (unhide HO1).there hl1 hq1 j (by have := unhide HDI; omega)) (by rw [List.size_toArray, List.length_map, (unhide HDI).2.2.1.len]; exact info32) (bytes_oneCell di) ?_
        have HO2 := hide ho2
        have HG2 := hide hg2
        clear ho2 hg2
        generalize hV : V1.setCells b (j * 32) _ = V2 at HO2 HG2 ⊢
        clear hV
        refine hK _ _ trivial ?_
        clear hK K
        try simp only [List.getElem_toArray, List.getElem_cons_zero, List.getElem_cons_succ, Act.put, List.setIfInBounds_toArray, List.set_cons_zero, List.set_cons_succ]
        refine wpAnyH_chainOf [] _ _ _ (by kernel_rfl) (by kernel_rfl) ?_
        refine wpChain_nil ?_
        have hq2 : ∀ d ∈ (q.set i dj).set j di, Dg d := fun d hd => by
          rcases List.mem_or_eq_of_mem_set hd with h | rfl
          · exact hq1 d h
          · exact (unhide HDI).2.2.1
        have HQ2 := hide hq2
        clear hq1 hl1 hq2 hSW
        go_wp2_with fail
        go_roundg g
        case measure => omega
        case rel =>
          have h := unhide HQ
          have hd := unhide HDI
          refine ⟨i + 1, (j : Int) - 1, (q.set i dj).set j di, rfl, rfl, by omega, by omega, by omega, by simp; omega, unhide HQ2, unhide HO2, (unhide HGR).trans ((grownDrewN HW (some b)).trans ((unhide HG1).trans (unhide HG2))), fun t ht ht2 => ?_, fun t h1 h2 => ?_⟩
          · rw [List.getElem?_set, List.getElem?_set]
            by_cases e1 : j = t
            · subst e1
              rw [if_pos rfl, if_pos (by simp; omega), ← hd.1, h.2.2.2.2.2.2 i (Nat.le_refl _) (by omega), show n - 1 - j = i by omega]
            · rw [if_neg e1]
              by_cases e2 : i = t
              · subst e2
                rw [if_pos rfl, if_pos (by omega), ← hd.2.1, h.2.2.2.2.2.2 j (by omega) (Int.le_refl _), show n - 1 - i = j by omega]
              · rw [if_neg e2]
                exact h.2.2.2.2.2.1 t ht (by omega)
          · rw [List.getElem?_set, List.getElem?_set, if_neg (by omega), if_neg (by omega)]
            exact h.2.2.2.2.2.2 t (by omega) (by omega)
      · intro K hK
        refine wp_load_mid 24 (.tmp 24) rfl b (i * 32) rfl (di.map (Value.int .u8)) _ ((unhide HOW2).range (unhide HQ).2.2.2.1 (unhide HQ).2.2.2.2.1 i di (unhide HDI).1) Tryd.underlying24 rfl (by rw [List.length_map, ((unhide HDI).2.2.1).len]; exact info32) ?_
        refine hK _ _ trivial ?_
        clear hK K
        try simp only [List.getElem_toArray, List.getElem_cons_zero, List.getElem_cons_succ, Act.put, List.setIfInBounds_toArray, List.set_cons_zero, List.set_cons_succ]
        refine wpAnyH_one 7 _ rfl (by kernel_rfl) (by kernel_rfl) ?_
        intro K hK
        refine wp_load_mid 24 (.tmp 20) rfl b (j * 32) rfl (dj.map (Value.int .u8)) _ ((unhide HOW2).range (unhide HQ).2.2.2.1 (unhide HQ).2.2.2.2.1 j dj (unhide HDI).2.1) Tryd.underlying24 rfl (by rw [List.length_map, ((unhide HDI).2.2.2.1).len]; exact info32) ?_
        refine hK _ _ trivial ?_
        clear hK K
        try simp only [List.getElem_toArray, List.getElem_cons_zero, List.getElem_cons_succ, Act.put, List.setIfInBounds_toArray, List.set_cons_zero, List.set_cons_succ]
        refine wpAnyH_one 12 _ rfl (by kernel_rfl) (by kernel_rfl) ?_
        intro K hK
        go_simp
        refine hK _ _ trivial ?_
        clear hK K
        try simp only [List.getElem_toArray, List.getElem_cons_zero, List.getElem_cons_succ, Act.put, List.setIfInBounds_toArray, List.set_cons_zero, List.set_cons_succ]
        refine wpAnyH_one 13 _ rfl (by kernel_rfl) (by kernel_rfl) ?_
        intro K hK
        obtain ⟨ho1, hg1⟩ := (unhide HOW2).set (unhide HQ).2.2.2.1 (unhide HQ).2.2.2.2.1 i (by have := unhide HQ; have := unhide HDI; omega) dj (unhide HDI).2.2.2.1
        refine wp_store_mid 24 (.tmp 26) (.tmp 21) rfl b (i * 32) (dj.map (Value.int .u8)).toArray rfl rfl (by rw [List.size_toArray, List.length_map, (unhide HDI).2.2.2.1.len]; exact (unhide HOW2).there (unhide HQ).2.2.2.1 (unhide HQ).2.2.2.2.1 i (by have := unhide HQ; have := unhide HDI; omega)) (by rw [List.size_toArray, List.length_map, (unhide HDI).2.2.2.1.len]; exact info32) (bytes_oneCell dj) ?_
        have HO1 := hide ho1
        have HG1 := hide hg1
        clear ho1 hg1
        generalize hV : W.setCells b (i * 32) _ = V1 at HO1 HG1 ⊢
        clear hV
        refine hK _ _ trivial ?_
        clear hK K
        try simp only [List.getElem_toArray, List.getElem_cons_zero, List.getElem_cons_succ, Act.put, List.setIfInBounds_toArray, List.set_cons_zero, List.set_cons_succ]
        refine wpAnyH_one 14 _ rfl (by kernel_rfl) (by kernel_rfl) ?_
        intro K hK
        go_simp
        refine hK _ _ trivial ?_
        clear hK K
        try simp only [List.getElem_toArray, List.getElem_cons_zero, List.getElem_cons_succ, Act.put, List.setIfInBounds_toArray, List.set_cons_zero, List.set_cons_succ]
        refine wpAnyH_one 15 _ rfl (by kernel_rfl) (by kernel_rfl) ?_
        intro K hK
        have hq1 : ∀ d ∈ q.set i dj, Dg d := fun d hd => by
          rcases List.mem_or_eq_of_mem_set hd with h | rfl
          · exact (unhide HQ).2.2.2.2.1 d h
          · exact (unhide HDI).2.2.2.1
        have hl1 : (q.set i dj).length = n := by rw [List.length_set]; exact (unhide HQ).2.2.2.1
        obtain ⟨ho2, hg2⟩ := (unhide HO1).set hl1 hq1 j (by have := unhide HDI; omega) di (unhide HDI).2.2.1
        refine wp_store_mid 24 (.tmp 27) (.tmp 25) rfl b (j * 32) (di.map (Value.int .u8)).toArray rfl rfl (by rw [List.size_toArray, List.length_map, (unhide HDI).2.2.1.len]; exact (unhide HO1).there hl1 hq1 j (by have := unhide HDI; omega)) (by rw [List.size_toArray, List.length_map, (unhide HDI).2.2.1.len]; exact info32) (bytes_oneCell di) ?_
        have HO2 := hide ho2
        have HG2 := hide hg2
        clear ho2 hg2
        generalize hV : V1.setCells b (j * 32) _ = V2 at HO2 HG2 ⊢
        clear hV
        refine hK _ _ trivial ?_
        clear hK K
        try simp only [List.getElem_toArray, List.getElem_cons_zero, List.getElem_cons_succ, Act.put, List.setIfInBounds_toArray, List.set_cons_zero, List.set_cons_succ]
        refine wpAnyH_chainOf [] _ _ _ (by kernel_rfl) (by kernel_rfl) ?_
        refine wpChain_nil ?_
        have hq2 : ∀ d ∈ (q.set i dj).set j di, Dg d := fun d hd => by
          rcases List.mem_or_eq_of_mem_set hd with h | rfl
          · exact hq1 d h
          · exact (unhide HDI).2.2.1
        have HQ2 := hide hq2
        clear hq1 hl1 hq2 hSW
        go_wp2_with fail
        go_roundg g
        case measure => omega
        case rel =>
          have h := unhide HQ
          have hd := unhide HDI
          refine ⟨i + 1, (j : Int) - 1, (q.set i dj).set j di, rfl, rfl, by omega, by omega, by omega, by simp; omega, unhide HQ2, unhide HO2, (unhide HGR).trans ((grownDrewN HW (some b)).trans ((unhide HG1).trans (unhide HG2))), fun t ht ht2 => ?_, fun t h1 h2 => ?_⟩
          · rw [List.getElem?_set, List.getElem?_set]
            by_cases e1 : j = t
            · subst e1
              rw [if_pos rfl, if_pos (by simp; omega), ← hd.1, h.2.2.2.2.2.2 i (Nat.le_refl _) (by omega), show n - 1 - j = i by omega]
            · rw [if_neg e1]
              by_cases e2 : i = t
              · subst e2
                rw [if_pos rfl, if_pos (by omega), ← hd.2.1, h.2.2.2.2.2.2 j (by omega) (Int.le_refl _), show n - 1 - i = j by omega]
              · rw [if_neg e2]
                exact h.2.2.2.2.2.1 t ht (by omega)
          · rw [List.getElem?_set, List.getElem?_set, if_neg (by omega), if_neg (by omega)]
            exact h.2.2.2.2.2.2 t (by omega) (by omega)
    · have HQ : Hid ((i : Int) + jz = (n : Int) - 1 ∧ q.length = n ∧ (∀ t, t < n → (t < i ∨ jz < (t : Int)) → q[t]? = p[n - 1 - t]?) ∧ (∀ t, i ≤ t → (t : Int) ≤ jz → q[t]? = p[t]?)) := ⟨hij, hql, hout, hmid⟩
      have HOW := hide hown
      have HGR := hide hgr
      have HLT : Hid (¬ (i : Int) < jz) := hlt
      clear hij hin hng hql hqd hown hgr hout hmid
      go_wp2_with fail
      go_end0
      refine ⟨rfl, ?_, unhide HGR⟩
      have e : p.reverse = q := by
        have h := unhide HQ
        have hn := (unhide HN).1
        have hl := unhide HLT
        apply List.ext_getElem?
        intro t
        by_cases ht : t < n
        · rw [List.getElem?_reverse (by omega), ← hn]
          by_cases h1 : t < i ∨ jz < (t : Int)
          · exact (h.2.2.1 t ht h1).symm
          · rw [h.2.2.2 t (by omega) (by omega), show n - 1 - t = t by omega]
        · rw [List.getElem?_eq_none (by simp; omega), List.getElem?_eq_none (by omega)]
      rw [e]
      exact unhide HOW
end Go.Proofs.YtceppmajbkmbdaaDoor
