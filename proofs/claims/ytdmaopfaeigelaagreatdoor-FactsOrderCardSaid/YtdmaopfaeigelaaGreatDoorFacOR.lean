/- Contracts over the program of facts: the order of facts. -/
import Derived.Test.YtdmaopfaeigelaaGreatDoorFacEM
import Derived.Test.YtdmaopfaeigelaaGreatDoorCodBack
namespace Go.Proofs.YtdmaopfaeigelaaGreatDoor
set_option linter.unusedSimpArgs false
set_option linter.unusedVariables false
set_option maxRecDepth 100000
open Go.RowKit Go.Shelf

/-- a total comparison -/
structure Cmp {α : Type} (c : α → α → Int) : Prop where
  anti : ∀ x y, c y x = -c x y
  trans : ∀ x y z, c x y ≤ 0 → c y z ≤ 0 → c x z ≤ 0
  rng : ∀ x y, -1 ≤ c x y ∧ c x y ≤ 1
theorem Cmp.tie {α : Type} {c : α → α → Int} (h : Cmp c) {x y z : α} (h1 : c x y ≤ 0) (h2 : c y z ≤ 0) (h3 : c x z = 0) : c x y = 0 ∧ c y z = 0 := by
  have a := h.anti x y
  have b := h.anti y z
  have d := h.anti x z
  have p := h.trans z x y (by omega) h1
  have q := h.trans y z x h2 (by omega)
  omega
theorem Cmp.on {α β : Type} {c : β → β → Int} (h : Cmp c) (k : α → β) : Cmp fun x y => c (k x) (k y) :=
  ⟨fun x y => h.anti _ _, fun x y z => h.trans _ _ _, fun x y => h.rng _ _⟩
theorem Cmp.lex {α : Type} {c d : α → α → Int} (h : Cmp c) (h' : Cmp d) : Cmp fun x y => if c x y = 0 then d x y else c x y := by
  refine ⟨fun x y => ?_, fun x y z => ?_, fun x y => ?_⟩
  · have a := h.anti x y
    have b := h'.anti x y
    show (if c y x = 0 then d y x else c y x) = -(if c x y = 0 then d x y else c x y)
    by_cases e : c x y = 0
    · rw [if_pos e, if_pos (by omega), b]
    · rw [if_neg e, if_neg (by omega), a]
  · intro h1 h2
    have p : c x y ≤ 0 := by split at h1 <;> omega
    have q : c y z ≤ 0 := by split at h2 <;> omega
    have r := h.trans x y z p q
    by_cases e : c x z = 0
    · obtain ⟨e1, e2⟩ := h.tie p q e
      rw [if_pos e1] at h1
      rw [if_pos e2] at h2
      rw [if_pos e]
      exact h'.trans x y z h1 h2
    · rw [if_neg e]
      exact r
  · have a := h.rng x y
    have b := h'.rng x y
    show -1 ≤ (if c x y = 0 then d x y else c x y) ∧ (if c x y = 0 then d x y else c x y) ≤ 1
    split <;> assumption
theorem cmp_int : Cmp cmpI := by
  refine ⟨fun x y => ?_, fun x y z => ?_, fun x y => ?_⟩ <;> unfold cmpI <;> repeat' split
  all_goals omega
theorem cmp_bytes : Cmp Lib.compareBytes := by
  refine ⟨fun x => ?_, fun x => ?_, fun x => ?_⟩
  · induction x with
    | nil => intro y; cases y <;> simp [Lib.compareBytes]
    | cons a r ih =>
      intro y
      cases y with
      | nil => simp [Lib.compareBytes]
      | cons b s =>
        simp only [Lib.compareBytes]
        have := ih s
        have e1 : a < b ↔ a.toNat < b.toNat := UInt8.lt_iff_toNat_lt
        have e2 : b < a ↔ b.toNat < a.toNat := UInt8.lt_iff_toNat_lt
        simp only [e1, e2]
        repeat' split
        all_goals omega
  · induction x with
    | nil => intro y z _ _; cases z <;> simp [Lib.compareBytes]
    | cons a r ih =>
      intro y z
      cases y with
      | nil => intro h; simp [Lib.compareBytes] at h
      | cons b s =>
        cases z with
        | nil => intro _ h; simp [Lib.compareBytes] at h
        | cons d t =>
          simp only [Lib.compareBytes]
          have := ih s t
          have e1 : ∀ p q : UInt8, p < q ↔ p.toNat < q.toNat := fun p q => UInt8.lt_iff_toNat_lt
          simp only [e1]
          intro h1 h2
          repeat' split at h1
          all_goals repeat' split at h2
          all_goals repeat' split
          all_goals first | omega | (exact this h1 h2)
  · induction x with
    | nil => intro y; cases y <;> simp [Lib.compareBytes]
    | cons a r ih =>
      intro y
      cases y with
      | nil => simp [Lib.compareBytes]
      | cons b s =>
        simp only [Lib.compareBytes]
        have := ih s
        repeat' split
        all_goals omega
theorem cmpBytes_zero : ∀ {l k : List UInt8}, Lib.compareBytes l k = 0 → l = k
  | [], [], _ => rfl
  | [], _ :: _, h => by simp [Lib.compareBytes] at h
  | _ :: _, [], h => by simp [Lib.compareBytes] at h
  | a :: r, b :: s, h => by
    simp only [Lib.compareBytes] at h
    split at h
    · omega
    · split at h
      · omega
      · rename_i h1 h2
        have e1 : ∀ p q : UInt8, p < q ↔ p.toNat < q.toNat := fun p q => UInt8.lt_iff_toNat_lt
        rw [e1] at h1 h2
        rw [cmpBytes_zero h, UInt8.toNat_inj.1 (by omega : a.toNat = b.toNat)]
theorem cmpBytes_self (l : List UInt8) : Lib.compareBytes l l = 0 := by
  have := cmp_bytes.anti l l
  omega
/-- facts that are the same are equal -/
theorem bytes_eq {s t : ByteArray} (h : s.toList = t.toList) : s = t := by
  rw [ByteArray.toList_eq, ByteArray.toList_eq] at h
  cases s; cases t
  simp at h
  rw [h]
theorem enEq_eq {x y : En} (h : enEq x y = true) : x = y := by
  obtain ⟨s, c, l, r⟩ := x
  obtain ⟨s2, c2, l2, r2⟩ := y
  simp only [enEq, Bool.and_eq_true, beq_iff_eq, decide_eq_true_eq] at h
  obtain ⟨⟨⟨h1, h2⟩, h3⟩, h4⟩ := h
  rw [h1, h2, h4, bytes_eq h3]
theorem shEq_eq {x y : Sh} (h : shEq x y = true) : x = y := by
  simp only [shEq, Bool.and_eq_true, beq_iff_eq, decide_eq_true_eq, gmEq_iff, cdsEq_iff] at h
  obtain ⟨⟨⟨⟨⟨⟨⟨⟨⟨h1, h2⟩, h3⟩, h4⟩, h5⟩, h6⟩, h7⟩, h8⟩, h9⟩, h10⟩ := h
  cases x; cases y
  simp only at h1 h2 h3 h4 h5 h6 h7 h8 h9 h10
  rw [h1, h2, h3, h4, h5, h6, h7, h8, h9, h10]
theorem ruEq_eq {x y : Ru} (h : ruEq x y = true) : x = y := by
  obtain ⟨a1, a2, a3, ⟨a4, a5, a6, a7⟩, a8, a9, a10, a11, a12, a13, a14, a15, a16, a17⟩ := x
  obtain ⟨b1, b2, b3, ⟨b4, b5, b6, b7⟩, b8, b9, b10, b11, b12, b13, b14, b15, b16, b17⟩ := y
  simp only [ruEq, Bool.and_eq_true, beq_iff_eq, decide_eq_true_eq, and_assoc] at h
  simp only [Ru.mk.injEq, Gm.mk.injEq, and_assoc]
  exact h
theorem fcEq_eq {x y : Fc} (h : fcEq x y = true) : x = y := by
  simp only [fcEq, fxEq, apEq, mvEq, ltEq, Bool.and_eq_true, beq_iff_eq, decide_eq_true_eq, gmEq_iff] at h
  obtain ⟨⟨⟨⟨⟨⟨⟨⟨⟨⟨h1, h2⟩, h3⟩, h4⟩, ⟨h5, h6⟩⟩, h7⟩, h8⟩, ⟨⟨h9, h10⟩, h11⟩⟩, ⟨h12, h13⟩⟩, ⟨⟨h14, h15⟩, h16⟩⟩, h17⟩ := h
  have h4 := enEq_eq h4
  have h7 := shEq_eq h7
  have h8 := ruEq_eq h8
  cases x; cases y
  simp only at h1 h2 h3 h4 h5 h6 h7 h8 h9 h10 h11 h12 h13 h14 h15 h16 h17
  rw [h1, h2, h3, h4, h5, h6, h7, h8, h9, h10, h11, h12, h13, h14, h15, h16, h17]
/-- the contents of facts are read back from their values -/
theorem numA_inj {n m : Int} (h : numA n = numA m) : n = m := by
  unfold numA at h
  injection h
theorem map_inj {α β : Type} {f : α → β} (hf : ∀ x y, f x = f y → x = y) : ∀ {l k : List α}, l.map f = k.map f → l = k
  | [], [], _ => rfl
  | [], _ :: _, h => by simp at h
  | _ :: _, [], h => by simp at h
  | a :: r, b :: s, h => by
    simp only [List.map_cons, List.cons.injEq] at h
    rw [hf _ _ h.1, map_inj hf h.2]
theorem numsA_inj {l k : List Int} (h : numsA l = numsA k) : l = k := by
  unfold numsA at h
  injection h with _ _ _ h
  exact map_inj (fun x y => numA_inj) h
theorem textA_inj {s t : ByteArray} (h : textA s = textA t) : s = t := by
  unfold textA at h
  injection h
theorem game_inj {g k : Gm} (h : numsA (gameL g) = numsA (gameL k)) : g = k := by
  have := numsA_inj h
  cases g; cases k
  simp [gameL] at this
  obtain ⟨h1, h2, h3, h4⟩ := this
  rw [h1, h2, h3, h4]
theorem red_inj {x y : Bool} (h : redI x = redI y) : x = y := by
  cases x <;> cases y <;> first | rfl | (simp [redI] at h)
theorem cards_inj {l k : List Cd} (h : cardsA l = cardsA k) : l = k := by
  unfold cardsA at h
  injection h with _ _ _ h
  refine map_inj (fun x y h => ?_) h
  unfold cardA at h
  injection h with _ _ _ h
  simp only [List.cons.injEq, and_true] at h
  cases x; cases y
  have h1 := numA_inj h.1
  have h2 := red_inj (numA_inj h.2)
  simp only at h1 h2
  rw [h1, h2]
theorem fstrOf_list (l : List Int) : (fstrOf l).data.toList = l.map fun n => UInt8.ofNat n.toNat := by
  have key : ∀ (l : List Int) (r : ByteArray), (l.foldl (fun r n => r.push (UInt8.ofNat n.toNat)) r).data.toList = r.data.toList ++ l.map fun n => UInt8.ofNat n.toNat := by
    intro l
    induction l with
    | nil => intro r; simp
    | cons x l ih => intro r; rw [List.foldl_cons, ih]; simp [ByteArray.push]
  unfold fstrOf
  rw [key]
  rfl
theorem u8s_inj : ∀ {l k : List Int}, (∀ x ∈ l, 0 ≤ x ∧ x ≤ 255) → (∀ x ∈ k, 0 ≤ x ∧ x ≤ 255) → (l.map fun n => UInt8.ofNat n.toNat) = (k.map fun n => UInt8.ofNat n.toNat) → l = k
  | [], [], _, _, _ => rfl
  | [], _ :: _, _, _, h => by simp at h
  | _ :: _, [], _, _, h => by simp at h
  | a :: r, b :: s, hl, hk, h => by
    simp only [List.map_cons, List.cons.injEq] at h
    have p := hl a (List.mem_cons_self ..)
    have q := hk b (List.mem_cons_self ..)
    have e := congrArg UInt8.toNat h.1
    simp only [UInt8.toNat_ofNat'] at e
    rw [show a = b by omega, u8s_inj (fun x hx => hl x (List.mem_cons_of_mem _ hx)) (fun x hx => hk x (List.mem_cons_of_mem _ hx)) h.2]
theorem fstrOf_inj {l k : List Int} (hl : ∀ x ∈ l, 0 ≤ x ∧ x ≤ 255) (hk : ∀ x ∈ k, 0 ≤ x ∧ x ≤ 255) (h : fstrOf l = fstrOf k) : l = k := by
  have h := congrArg (fun s : ByteArray => s.data.toList) h
  simp only [fstrOf_list] at h
  exact u8s_inj hl hk h
theorem truth_inj {x y : Bool} (h : (if x then (1 : Int) else 0) = if y then 1 else 0) : x = y := by
  cases x <;> cases y <;> simp at h <;> rfl
theorem what_inj (k : Int) (h1 : 1 ≤ k) (h2 : k ≤ 8) {f g : Fc} (bf : ∀ x ∈ f.void, 0 ≤ x ∧ x ≤ 255) (bg : ∀ x ∈ g.void, 0 ≤ x ∧ x ≤ 255) (h : whatK k f = whatK k g) : fOwn k f = fOwn k g := by
  have : k = 1 ∨ k = 2 ∨ k = 3 ∨ k = 4 ∨ k = 5 ∨ k = 6 ∨ k = 7 ∨ k = 8 := by omega
  rcases this with rfl | rfl | rfl | rfl | rfl | rfl | rfl | rfl <;> simp only [whatK, List.cons.injEq, and_true] at h
  · obtain ⟨a, b, c, d⟩ := h
    have a := numA_inj a
    have b := numA_inj b
    have c := numsA_inj c
    have d := textA_inj d
    have e : f.e = g.e := by
      cases hf : f.e; cases hg : g.e
      rw [hf, hg] at a b c d
      simp only at a b c d
      rw [a, b, c, d]
    simp only [fOwn, e]
  · obtain ⟨a, b⟩ := h
    simp only [fOwn, game_inj a, numA_inj b]
  · obtain ⟨a1, a2, a3, a4, a5, a6, a7, a8, a9, a10⟩ := h
    have e : f.sh = g.sh := by
      have a1 := game_inj a1
      have a2 := numA_inj a2
      have a3 := numA_inj a3
      have a4 := numA_inj a4
      have a5 := numA_inj a5
      have a6 := numA_inj a6
      have a7 := numsA_inj a7
      have a8 := numsA_inj a8
      have a9 := cards_inj a9
      have a10 := cards_inj a10
      cases hf : f.sh; cases hg : g.sh
      rw [hf, hg] at a1 a2 a3 a4 a5 a6 a7 a8 a9 a10
      simp only at a1 a2 a3 a4 a5 a6 a7 a8 a9 a10
      rw [a1, a2, a3, a4, a5, a6, a7, a8, a9, a10]
    simp only [fOwn, e]
  · obtain ⟨a1, a2, a3, a4, a5, a6, a7, a8, a9, a10, a11, a12, a13, a14⟩ := h
    have e : f.r = g.r := by
      have a1 := numA_inj a1
      have a2 := numA_inj a2
      have a3 := numA_inj a3
      have a4 := game_inj a4
      have a5 := numA_inj a5
      have a6 := numA_inj a6
      have a7 := numA_inj a7
      have a8 := numA_inj a8
      have a9 := numA_inj a9
      have a10 := numA_inj a10
      have a11 := numA_inj a11
      have a12 := numA_inj a12
      have a13 := numA_inj a13
      have a14 := numA_inj a14
      cases hf : f.r; cases hg : g.r
      rw [hf, hg] at a1 a2 a3 a4 a5 a6 a7 a8 a9 a10 a11 a12 a13 a14
      simp only at a1 a2 a3 a4 a5 a6 a7 a8 a9 a10 a11 a12 a13 a14
      rw [a1, a2, a3, a4, a5, a6, a7, a8, a9, a10, a11, a12, a13, a14]
    simp only [fOwn, e]
  · obtain ⟨a, b, c⟩ := h
    simp only [fOwn, numA_inj a, numA_inj b, truth_inj (numA_inj c)]
  · obtain ⟨a, b⟩ := h
    simp only [fOwn, numA_inj a, numA_inj b]
  · obtain ⟨a, b, c⟩ := h
    simp only [fOwn, numA_inj a, numA_inj b, numsA_inj c]
  · simp only [fOwn, fstrOf_inj bf bg (textA_inj h)]
/-- the values of facts are bounded -/
theorem bd_num {n : Int} (h : I64 n) : (numA n).bd := by
  unfold numA Va.bd
  exact ⟨h, by decide, trivial, fun i q hq => by simp at hq⟩
theorem bd_text {s : ByteArray} (h : s.size ≤ 1000000) : (textA s).bd := by
  unfold textA Va.bd
  exact ⟨⟨by decide, by decide⟩, by omega, trivial, fun i q hq => by simp at hq⟩
theorem bdAll_in : ∀ {l : List Va}, (∀ x ∈ l, x.bd) → bdAll l
  | [], _ => trivial
  | x :: r, h => ⟨h x (List.mem_cons_self ..), bdAll_in fun y hy => h y (List.mem_cons_of_mem _ hy)⟩
theorem bd_list {l : List Va} (h : ∀ x ∈ l, x.bd) : (Va.mk 3 0 ByteArray.empty l []).bd := by
  unfold Va.bd
  exact ⟨⟨by decide, by decide⟩, by decide, bdAll_in h, fun i q hq => by simp at hq⟩
theorem bd_nums {l : List Int} (h : AllI l) : (numsA l).bd := bd_list fun x hx => by
  obtain ⟨n, hn, rfl⟩ := List.mem_map.1 hx
  exact bd_num (h n hn)
theorem i64_red (b : Bool) : I64 (redI b) := by cases b <;> exact ⟨by decide, by decide⟩
theorem bd_cards {l : List Cd} (h : AllC l) : (cardsA l).bd := bd_list fun x hx => by
  obtain ⟨c, hc, rfl⟩ := List.mem_map.1 hx
  refine bd_list fun y hy => ?_
  simp only [List.mem_cons, List.not_mem_nil, or_false] at hy
  rcases hy with rfl | rfl
  · exact bd_num (h c hc)
  · exact bd_num (i64_red c.red)
theorem what_bd (f : Fc) (a : Ad) (w : World) (hf : FAt w f a) (hok : okFact f = true) (hlim : f.e.rules.size ≤ 1000000) : ∀ x ∈ whatV f, x.bd := by
  obtain ⟨hk, hd, hn, hh, _⟩ := okFact_open hok
  have N : ∀ {n : Int}, I64 n → (numA n).bd := fun h => bd_num h
  have T : ∀ {s : ByteArray}, s.size ≤ 1000000 → (textA s).bd := fun h => bd_text h
  have Q : ∀ {l : List Int}, AllI l → l.length ≤ 1000 → (numsA l).bd := fun h _ => bd_nums h
  have C : ∀ {l : List Cd}, AllC l → l.length ≤ 1000 → (cardsA l).bd := fun h _ => bd_cards h
  have G : ∀ {g : Gm}, AllI (gameL g) → (numsA (gameL g)).bd := fun h => bd_nums h
  have hkd : f.kind = 1 ∨ f.kind = 2 ∨ f.kind = 3 ∨ f.kind = 4 ∨ f.kind = 5 ∨ f.kind = 6 ∨ f.kind = 7 ∨ f.kind = 8 := by omega
  have U : ∀ k, f.kind = k → whatV f = whatK k f := fun k h => by unfold whatV; rw [h]
  rcases hkd with hk | hk | hk | hk | hk | hk | hk | hk <;> rw [U _ hk] <;> rw [hk] at hh
  · have hh : okEnt f.e = true := hh
    unfold okEnt at hh
    simp only [Bool.and_eq_true] at hh
    obtain ⟨⟨⟨⟨h1, h2⟩, h3⟩, _⟩, _⟩ := hh
    intro x hx
    simp [whatK] at hx
    rcases hx with rfl | rfl | rfl | rfl
    · exact N (i64_in h1 (by decide) (by decide))
    · exact N (i64_in h2 (by decide) (by decide))
    · exact Q (clubs_i64 h3) hf.cl.few
    · exact T hlim
  · have hh : (okGame f.xg && inR f.venue 0 4095) = true := hh
    rw [Bool.and_eq_true] at hh
    intro x hx
    simp [whatK] at hx
    rcases hx with rfl | rfl
    · exact G (game_i64 hh.1)
    · exact N (i64_in hh.2 (by decide) (by decide))
  · have hs := sh_i64 (show okSheet f.sh = true from hh)
    have hm := hs.hn
    intro x hx
    simp [whatK] at hx
    rcases hx with rfl | rfl | rfl | rfl | rfl | rfl | rfl | rfl | rfl | rfl
    · exact G hs.hg
    · exact N (hm _ (by simp))
    · exact N (hm _ (by simp))
    · exact N (hm _ (by simp))
    · exact N (hm _ (by simp))
    · exact N (hm _ (by simp))
    · exact Q hs.h1 hf.hs.few
    · exact Q hs.h2 hf.as_.few
    · exact C hs.h3 hf.hc.few
    · exact C hs.h4 hf.ac.few
  · have hr := ru_i64 (show okRuling f.r = true from hh)
    have h1 := hr.h1
    have h2 := hr.h2
    have h3 := hr.h3
    intro x hx
    simp [whatK] at hx
    rcases hx with rfl | rfl | rfl | rfl | rfl | rfl | rfl | rfl | rfl | rfl | rfl | rfl | rfl | rfl
    · exact N (h1 _ (by simp))
    · exact N (h1 _ (by simp))
    · exact N (h1 _ (by simp))
    · exact G hr.hg
    · exact N (h2 _ (by simp))
    · exact N (h2 _ (by simp))
    · exact N (h2 _ (by simp))
    · exact N (h2 _ (by simp))
    · exact N (h2 _ (by simp))
    · exact N (h2 _ (by simp))
    · exact N (h3 _ (by simp))
    · exact N (h3 _ (by simp))
    · exact N (h3 _ (by simp))
    · exact N (h3 _ (by simp))
  · have hh : (inR f.ac 1 1048576 && inR f.ai 1 2) = true := hh
    rw [Bool.and_eq_true] at hh
    intro x hx
    simp only [whatK, List.mem_cons, List.not_mem_nil, or_false] at hx
    rcases hx with rfl | rfl | rfl
    · exact N (i64_in hh.1 (by decide) (by decide))
    · exact N (i64_in hh.2 (by decide) (by decide))
    · exact N (i64_truth f.susp)
  · have hh : okMove f.mp f.mt = true := hh
    unfold okMove at hh
    rw [Bool.and_eq_true, Bool.or_eq_true, decide_eq_true_eq] at hh
    intro x hx
    simp [whatK] at hx
    rcases hx with rfl | rfl
    · exact N (i64_in hh.1 (by decide) (by decide))
    · refine N ?_
      rcases hh.2 with h | h
      · exact i64_in h (by decide) (by decide)
      · rw [h]; exact ⟨by decide, by decide⟩
  · have hh : okLot f.ls f.lc f.order = true := hh
    unfold okLot at hh
    simp only [Bool.and_eq_true] at hh
    intro x hx
    simp [whatK] at hx
    rcases hx with rfl | rfl | rfl
    · exact N (i64_in hh.1.1.1 (by decide) (by decide))
    · exact N (i64_in hh.1.1.2 (by decide) (by decide))
    · exact Q (clubs_i64 hh.1.2) hf.od.few
  · intro x hx
    simp [whatK] at hx
    subst hx
    exact T (by rw [fstrOf_size, hf.void]; omega)
theorem fact_bd (f : Fc) (a : Ad) (w : World) (hf : FAt w f a) (hok : okFact f = true) (hlim : f.e.rules.size ≤ 1000000) : (factA f (whatA f)).bd := by
  obtain ⟨hk, hd, hn, hh, _⟩ := okFact_open hok
  have hW : (whatA f).bd := bd_list (what_bd f a w hf hok hlim)
  unfold factA Va.bd
  refine ⟨⟨by decide, by decide⟩, by decide, ⟨bd_num (i64_in hd (by decide) (by decide)), bd_num ⟨by omega, by omega⟩, bd_num (i64_in hn (by decide) (by decide)), hW, trivial⟩, fun i q hq => ?_⟩
  match i, hq with
  | 0, hq => injection hq with hq; subst hq; decide
  | 1, hq => injection hq with hq; subst hq; decide
  | 2, hq => injection hq with hq; subst hq; decide
  | 3, hq => injection hq with hq; subst hq; decide
  | i + 4, hq => simp at hq
/-- facts whose encodings are equal are equal -/
theorem enc_inj {U V : Va} (u1 : U.wf = true) (u2 : U.bd) (u3 : U.dep ≤ 5) (v1 : V.wf = true) (v2 : V.bd) (v3 : V.dep ≤ 5) (h : U.enc = V.enc) : U = V := by
  have p := forw u1 u2 (by omega) []
  have q := forw v1 v2 (by omega) []
  rw [h, q] at p
  injection p with p
  injection p with p
  exact p.symm
theorem fact_inj {f g : Fc} {a b : Ad} {w : World} (hf : FAt w f a) (hg : FAt w g b) (of : okFact f = true) (og : okFact g = true) (lf : f.e.rules.size ≤ 1000000) (lg : g.e.rules.size ≤ 1000000)
    (bf : ∀ x ∈ f.void, 0 ≤ x ∧ x ≤ 255) (bg : ∀ x ∈ g.void, 0 ≤ x ∧ x ≤ 255) (h : fencF f = fencF g) : f = g := by
  unfold fencF at h
  rw [if_pos of, if_pos og] at h
  have vf := fact_vok f a w hf of lf
  have vg := fact_vok g b w hg og lg
  have e := enc_inj vf.wf (fact_bd f a w hf of lf) vf.dep vg.wf (fact_bd g b w hg og lg) vg.dep h
  unfold factA at e
  injection e with _ _ _ e _
  simp only [List.cons.injEq, and_true] at e
  obtain ⟨e1, e2, e3, e4⟩ := e
  have e1 := numA_inj e1
  have e2 := numA_inj e2
  have e3 := numA_inj e3
  unfold whatA at e4
  injection e4 with _ _ _ e4 _
  unfold whatV at e4
  obtain ⟨hk, _, _, _, p⟩ := okFact_open of
  obtain ⟨_, _, _, _, q⟩ := okFact_open og
  rw [← e2] at e4 q
  have r := what_inj f.kind hk.1 hk.2 bf bg e4
  have p := fcEq_eq p
  have q := fcEq_eq q
  rw [← r] at q
  rw [p, q]
  unfold withHead
  simp only [e1, e2, e3]
/-- how Compare orders -/
def cmpL (f g : Fc) : Int := if cmpI f.known g.known = 0 then (if cmpI f.day g.day = 0 then (if cmpI f.kind g.kind = 0 then Lib.compareBytes (fencF f) (fencF g) else cmpI f.kind g.kind) else cmpI f.day g.day) else cmpI f.known g.known
theorem cmp_facts : Cmp cmpL := (cmp_int.on Fc.known).lex ((cmp_int.on Fc.day).lex ((cmp_int.on Fc.kind).lex (cmp_bytes.on fencF)))
theorem cmpF_eq (f g : Fc) : cmpF f g = cmpL f g := by
  unfold cmpF cmpL cmpN
  simp only [orV]
  by_cases h1 : cmpI f.known g.known = 0
  · by_cases h2 : cmpI f.day g.day = 0
    · by_cases h3 : cmpI f.kind g.kind = 0
      · simp only [h1, h2, h3, if_true, ne_eq, not_true, if_false]
        by_cases h4 : fcEq f g = true
        · rw [if_pos h4, fcEq_eq h4, cmpBytes_self]
        · rw [if_neg h4]
      · simp [h1, h2, h3]
    · simp [h1, h2]
  · simp [h1]
theorem cmpI_zero {x y : Int} (h : cmpI x y = 0) : x = y := by
  unfold cmpI at h
  split at h <;> first | omega | (split at h <;> omega)
theorem cmpI_self (x : Int) : cmpI x x = 0 := by
  unfold cmpI
  rw [if_neg (by omega), if_neg (by omega)]
theorem cmpI_lt {x y : Int} (h : x < y) : cmpI x y = -1 := by
  unfold cmpI
  rw [if_pos h]
theorem cmpF_lt1 {f g : Fc} (h : f.known < g.known) : cmpF f g = -1 := by
  rw [cmpF_eq]
  unfold cmpL
  rw [cmpI_lt h, if_neg (by decide)]
theorem cmpF_lt2 {f g : Fc} (e : f.known = g.known) (h : f.day < g.day) : cmpF f g = -1 := by
  rw [cmpF_eq]
  unfold cmpL
  rw [e, cmpI_self, if_pos rfl, cmpI_lt h, if_neg (by decide)]
theorem cmpF_anti (f g : Fc) : IntKind.i64.wrap (-cmpF g f) = cmpF f g := by
  rw [cmpF_eq, cmpF_eq]
  have h := cmp_facts.anti f g
  have r := cmp_facts.rng f g
  rw [h, Int.neg_neg]
  rw [IntKind.wrap_i64]
  omega
theorem cmpF_trans (f g k : Fc) : cmpF f g > 0 ∨ cmpF g k > 0 ∨ cmpF f k ≤ 0 := by
  rw [cmpF_eq, cmpF_eq, cmpF_eq]
  have h := cmp_facts.trans f g k
  omega
theorem fcEq_self (f : Fc) (g : Fc) (h : f = g) : cmpF f g = 0 := by
  subst h
  rw [cmpF_eq]
  unfold cmpL
  rw [cmpI_self, cmpI_self, cmpI_self, cmpBytes_self, if_pos rfl, if_pos rfl, if_pos rfl]
theorem cmpF_zero {f g : Fc} {a b : Ad} {w : World} (hf : FAt w f a) (hg : FAt w g b) (of : okFact f = true) (og : okFact g = true) (lf : f.e.rules.size ≤ 1000000) (lg : g.e.rules.size ≤ 1000000)
    (bf : ∀ x ∈ f.void, 0 ≤ x ∧ x ≤ 255) (bg : ∀ x ∈ g.void, 0 ≤ x ∧ x ≤ 255) : (cmpF f g == 0) = fcEq f g := by
  by_cases h : fcEq f g = true
  · rw [h, fcEq_self f g (fcEq_eq h)]
    rfl
  · rw [Bool.not_eq_true] at h
    rw [h, beq_eq_false_iff_ne]
    intro hz
    have hz' := hz
    unfold cmpF at hz'
    rw [h] at hz'
    by_cases hn : cmpN f g = 0
    · rw [if_neg (by simp [hn])] at hz'
      rw [if_neg (by decide)] at hz'
      have e := fact_inj hf hg of og lf lg bf bg (cmpBytes_zero hz')
      subst e
      obtain ⟨_, _, _, _, q⟩ := okFact_open of
      have e := fcEq_eq q
      rw [← e, h] at q
      cases q
    · rw [if_pos hn] at hz'
      exact hn hz'
end Go.Proofs.YtdmaopfaeigelaaGreatDoor
