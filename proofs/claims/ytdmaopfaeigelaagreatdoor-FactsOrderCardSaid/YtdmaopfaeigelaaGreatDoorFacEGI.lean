/- Contracts over the program of facts: what yields the elements of entrants, fixtures, rulings, appeals and lots. Contracts over the program of facts: cards as values. Contracts over the program of facts: what yields the elements of sheets. -/
import Derived.Test.YtdmaopfaeigelaaGreatDoorFacEDF
namespace Go.Proofs.YtdmaopfaeigelaaGreatDoor
set_option linter.unusedSimpArgs false
set_option linter.unusedVariables false
set_option maxRecDepth 100000
open Go.RowKit Go.Shelf

/-- a list whose cells the rounds leave as they are -/
structure SlF (X : Nat) (W : World) (A : Option Addr) (l : List Int) (k : Nat) : Prop where
  sl : Sl W A l k
  free : ∀ b o, A = some ⟨b, o, none⟩ → l ≠ [] → FreeB X W b
theorem SlF.kp {X : Nat} {W W' : World} {A : Option Addr} {l : List Int} {k : Nat} (h : SlF X W A l k) (hl : Lst X W) (hk : KpV X W W') : SlF X W' A l k := by
  refine ⟨⟨⟨fun hn => ?_⟩, h.sl.cap, h.sl.nil, h.sl.few⟩, fun b o e hn => (hk.free hl b (h.free b o e hn)).2⟩
  obtain ⟨b, o, e, hc⟩ := h.sl.it.at_ hn
  have hb := (hk.free hl b (h.free b o e hn)).1
  exact ⟨b, o, e, fun j hj => (World.cell?_of_block (a := ⟨b, o + j, none⟩) hb).trans (hc j hj)⟩
/-- one's own box, which the rounds leave as it is -/
structure Bx (X : Nat) (W : World) (b : Nat) (t : TypeId) (cs : List Value) : Prop where
  at_ : VsAt W b t cs
  fr : FreeB X W b
theorem Bx.kp {X : Nat} {W W' : World} {b : Nat} {t : TypeId} {cs : List Value} (h : Bx X W b t cs) (hl : Lst X W) (hk : KpV X W W') : Bx X W' b t cs := ⟨(hk.free hl b h.fr).1.trans h.at_, (hk.free hl b h.fr).2⟩
def numR (n : Int) : Raw := numV n
def textR (s : ByteArray) : Raw := ⟨textL s, rfl, textL_one s⟩
theorem i64_truth (b : Bool) : I64 (if b then 1 else 0) := by cases b <;> exact ⟨by decide, by decide⟩
set_option maxHeartbeats 4000000 in
theorem yLot_in (nf : Nat) (hnf : 3 ≤ nf) (X L N B D : Nat) (J : List Raw → World → Prop) (hJ : AbidesFrom D J) (hY : YOn X L N J) (s c : Int) (l : List Int) (A : Option Addr) (k : Nat) (hs : AllI [s, c]) (hl : AllI l)
    (Vs : List Va) (pre : List Raw) (W : World) (hI : Its X B J Vs pre W) (hN : pre.length + 3 ≤ N) (hA_l : SlF X W A l k) :
    CallsIn Fence.wide nf Tryz.prog 154 #[.agg #[.int .i64 s, .int .i64 c, .slice A l.length k], .func (.yield L) #[] #[]] W (YDone X B J (Vs ++ [numA s, numA c] ++ [numsA l]) W) := by
  have HJ := hide hJ; have HY := hide hY; have HI := hide hI; have HN := hide hN
  have HA_l := hide hA_l
  obtain ⟨n_l, hn_l⟩ : ∃ n, n = (l).length := ⟨_, rfl⟩
  have HN_l := hide hn_l
  have H_hs := hide hs
  have H_hl := hide hl
  have h1n : 1 ≤ nf := by omega
  have h2n : 2 ≤ nf - 1 := by omega
  rw [← hn_l]
  clear hJ hY hI hN hA_l hn_l hs hl
  refine callsIn_of_wp Tryz.func154 rfl trivial ?_ rfl
  simp only [Tryz.ntmps154, List.size_toArray, List.length_cons, List.length_nil, Nat.reduceAdd, Nat.reduceSub, Array.replicate_succ, Array.replicate_zero, List.push_toArray, List.append_toArray, List.nil_append, List.cons_append]
  gi_wp2_with fail
  generalize hX1 : World.alloc W _ = W1
  have hB1 : Below W.heap.size W W1 := hX1 ▸ (Below.refl _ _).alloc (Nat.le_refl _) _
  have hv1 := boxedV W W1 [.int .i64 s, .int .i64 c, .slice A n_l k] 41 (by rw [← hX1]; rfl)
  have hz1 : W1.heap.size = W.heap.size + 1 := by rw [← hX1]; show (W.heap.push _).size = _; rw [Array.size_push]
  clear hX1
  have HX := hide (show Bx X W1 W.heap.size 41 [.int .i64 s, .int .i64 c, .slice A n_l k] from ⟨hv1, FreeB.new (unhide HI).lst hB1 (Nat.le_refl _) ⟨_, hv1, rfl⟩⟩)
  have HK := hide ((kpV X).below hB1)
  have HA_l := hide ((unhide HA_l).kp (unhide HI).lst ((kpV X).below hB1))
  have HI := hide ((unhide HI).below (unhide HJ) hB1)
  clear hB1 hv1
  generalize hXr : World.alloc W1 _ = W2
  have hbr : Below W1.heap.size W1 W2 := hXr ▸ (Below.refl _ _).alloc (Nat.le_refl _) _
  have hrow : W2.heap[(W.heap.size + 1)]? = some (.cells #[.int .i64 s, .int .i64 c] 3 (0, 0)) := by
    rw [← hXr, ← hz1]
    show (W1.heap.push _)[W1.heap.size]? = _
    rw [Array.getElem?_push_size]
  clear hXr hz1
  have HX := hide ((unhide HX).kp (unhide HI).lst ((kpV X).below hbr))
  have HA_l := hide ((unhide HA_l).kp (unhide HI).lst ((kpV X).below hbr))
  have HK := hide ((kpV X).trans (unhide HK) ((kpV X).below hbr))
  have HI := hide ((unhide HI).below (unhide HJ) hbr)
  refine ⟨trivial, (yNums_in (nf - 1) h2n L (W.heap.size + 1) 2 [s, c] (by simp) (by simp) N (KpV X) (kpV X) J (fun _ _ => False) D (unhide HJ) ((unhide HY).num _) _ (by have := unhide HN; simp; omega) W2 _ _ hrow (fun j hj => ?_) (unhide HI).j).mono ?_⟩
  · match j, hj with
    | 0, _ => rfl
    | 1, _ => rfl
  rintro e W3 (⟨rfl, hJ3, hk3⟩ | ⟨_, _, _, h⟩)
  case inr => exact h.elim
  have HX := hide ((unhide HX).kp (unhide HI).lst hk3)
  have HA_l := hide ((unhide HA_l).kp (unhide HI).lst hk3)
  have HK := hide ((kpV X).trans (unhide HK) hk3)
  have HI := hide ((unhide HI).nums (unhide H_hs) hk3 hJ3)
  clear hJ3 hk3 hrow hbr
  have hc2 : W3.cell? ⟨W.heap.size, 2, none⟩ = some (.slice A n_l k) := (unhide HX).at_.cell rfl
  gi_wp2_with fail
  rw [unhide HN_l]
  refine ⟨trivial, callsIn_wide.2 ((fnumbers_any A k l W3 (unhide HA_l).sl).mono ?_)⟩
  rintro e W4 h4
  obtain ⟨x, rfl, hnew, hb4⟩ := h4.new (unhide H_hl) (unhide HA_l).sl.few
  have hx := hnew.fr (unhide HI).lst hb4 (unhide HI).big
  have HX := hide ((unhide HX).kp (unhide HI).lst ((kpV X).below hb4))
  have HA_l := hide ((unhide HA_l).kp (unhide HI).lst ((kpV X).below hb4))
  have HK := hide ((kpV X).trans (unhide HK) ((kpV X).below hb4))
  have HI := hide ((unhide HI).below (unhide HJ) hb4)
  obtain ⟨fn, tmps, assign, body, hy, hR⟩ := (unhide HY) (nf - 1) _ x W4 (unhide HI).j (by have := unhide HN; simp; omega)
  have HR := hide hR; have HE := hide hx
  clear hR hx hb4 hnew h4 hc2
  gi_wp2
  refine (unhide HR).mono ?_
  rintro e W5 ⟨rfl, hJ5, hk5⟩
  have HX := hide ((unhide HX).kp (unhide HI).lst hk5)
  have HA_l := hide ((unhide HA_l).kp (unhide HI).lst hk5)
  have HK := hide ((kpV X).trans (unhide HK) hk5)
  have HI := hide ((unhide HI).one (unhide HE) hk5 hJ5)
  clear hJ5 hk5 HR HE hy
  have HD : Hid (YDone X B J (Vs ++ [numA s, numA c] ++ [numsA l]) W (.returned (.bool true)) W5) := ⟨rfl, ⟨_, unhide HI⟩, unhide HK⟩
  gi_wp2
  go_ret
  exact unhide HD
set_option maxHeartbeats 4000000 in
theorem yEnt_in (nf : Nat) (hnf : 3 ≤ nf) (X L N B D : Nat) (J : List Raw → World → Prop) (hJ : AbidesFrom D J) (hY : YOn X L N J) (s c : Int) (l : List Int) (r : ByteArray) (A : Option Addr) (k : Nat) (hs : AllI [s, c]) (hl : AllI l) (hr : r.size ≤ 140737488351232)
    (Vs : List Va) (pre : List Raw) (W : World) (hI : Its X B J Vs pre W) (hN : pre.length + 4 ≤ N) (hA_l : SlF X W A l k) :
    CallsIn Fence.wide nf Tryz.prog 148 #[.agg #[.int .i64 s, .int .i64 c, .slice A l.length k, .string r], .func (.yield L) #[] #[]] W (YDone X B J (Vs ++ [numA s, numA c] ++ [numsA l] ++ [textA r]) W) := by
  have HJ := hide hJ; have HY := hide hY; have HI := hide hI; have HN := hide hN
  have HA_l := hide hA_l
  obtain ⟨n_l, hn_l⟩ : ∃ n, n = (l).length := ⟨_, rfl⟩
  have HN_l := hide hn_l
  have H_hs := hide hs
  have H_hl := hide hl
  have H_hr := hide hr
  have h1n : 1 ≤ nf := by omega
  have h2n : 2 ≤ nf - 1 := by omega
  rw [← hn_l]
  clear hJ hY hI hN hA_l hn_l hs hl hr
  refine callsIn_of_wp Tryz.func148 rfl trivial ?_ rfl
  simp only [Tryz.ntmps148, List.size_toArray, List.length_cons, List.length_nil, Nat.reduceAdd, Nat.reduceSub, Array.replicate_succ, Array.replicate_zero, List.push_toArray, List.append_toArray, List.nil_append, List.cons_append]
  gi_wp2_with fail
  generalize hX1 : World.alloc W _ = W1
  have hB1 : Below W.heap.size W W1 := hX1 ▸ (Below.refl _ _).alloc (Nat.le_refl _) _
  have hv1 := boxedV W W1 [.int .i64 s, .int .i64 c, .slice A n_l k, .string r] 24 (by rw [← hX1]; rfl)
  have hz1 : W1.heap.size = W.heap.size + 1 := by rw [← hX1]; show (W.heap.push _).size = _; rw [Array.size_push]
  clear hX1
  have HX := hide (show Bx X W1 W.heap.size 24 [.int .i64 s, .int .i64 c, .slice A n_l k, .string r] from ⟨hv1, FreeB.new (unhide HI).lst hB1 (Nat.le_refl _) ⟨_, hv1, rfl⟩⟩)
  have HK := hide ((kpV X).below hB1)
  have HA_l := hide ((unhide HA_l).kp (unhide HI).lst ((kpV X).below hB1))
  have HI := hide ((unhide HI).below (unhide HJ) hB1)
  clear hB1 hv1
  generalize hXr : World.alloc W1 _ = W2
  have hbr : Below W1.heap.size W1 W2 := hXr ▸ (Below.refl _ _).alloc (Nat.le_refl _) _
  have hrow : W2.heap[(W.heap.size + 1)]? = some (.cells #[.int .i64 s, .int .i64 c] 3 (0, 0)) := by
    rw [← hXr, ← hz1]
    show (W1.heap.push _)[W1.heap.size]? = _
    rw [Array.getElem?_push_size]
  clear hXr hz1
  have HX := hide ((unhide HX).kp (unhide HI).lst ((kpV X).below hbr))
  have HA_l := hide ((unhide HA_l).kp (unhide HI).lst ((kpV X).below hbr))
  have HK := hide ((kpV X).trans (unhide HK) ((kpV X).below hbr))
  have HI := hide ((unhide HI).below (unhide HJ) hbr)
  refine ⟨trivial, (yNums_in (nf - 1) h2n L (W.heap.size + 1) 2 [s, c] (by simp) (by simp) N (KpV X) (kpV X) J (fun _ _ => False) D (unhide HJ) ((unhide HY).num _) _ (by have := unhide HN; simp; omega) W2 _ _ hrow (fun j hj => ?_) (unhide HI).j).mono ?_⟩
  · match j, hj with
    | 0, _ => rfl
    | 1, _ => rfl
  rintro e W3 (⟨rfl, hJ3, hk3⟩ | ⟨_, _, _, h⟩)
  case inr => exact h.elim
  have HX := hide ((unhide HX).kp (unhide HI).lst hk3)
  have HA_l := hide ((unhide HA_l).kp (unhide HI).lst hk3)
  have HK := hide ((kpV X).trans (unhide HK) hk3)
  have HI := hide ((unhide HI).nums (unhide H_hs) hk3 hJ3)
  clear hJ3 hk3 hrow hbr
  have hc2 : W3.cell? ⟨W.heap.size, 2, none⟩ = some (.slice A n_l k) := (unhide HX).at_.cell rfl
  gi_wp2_with fail
  rw [unhide HN_l]
  refine ⟨trivial, callsIn_wide.2 ((fnumbers_any A k l W3 (unhide HA_l).sl).mono ?_)⟩
  rintro e W4 h4
  obtain ⟨x, rfl, hnew, hb4⟩ := h4.new (unhide H_hl) (unhide HA_l).sl.few
  have hx := hnew.fr (unhide HI).lst hb4 (unhide HI).big
  have HX := hide ((unhide HX).kp (unhide HI).lst ((kpV X).below hb4))
  have HA_l := hide ((unhide HA_l).kp (unhide HI).lst ((kpV X).below hb4))
  have HK := hide ((kpV X).trans (unhide HK) ((kpV X).below hb4))
  have HI := hide ((unhide HI).below (unhide HJ) hb4)
  obtain ⟨fn, tmps, assign, body, hy, hR⟩ := (unhide HY) (nf - 1) _ x W4 (unhide HI).j (by have := unhide HN; simp; omega)
  have HR := hide hR; have HE := hide hx
  clear hR hx hb4 hnew h4 hc2
  gi_wp2
  refine (unhide HR).mono ?_
  rintro e W5 ⟨rfl, hJ5, hk5⟩
  have HX := hide ((unhide HX).kp (unhide HI).lst hk5)
  have HA_l := hide ((unhide HA_l).kp (unhide HI).lst hk5)
  have HK := hide ((kpV X).trans (unhide HK) hk5)
  have HI := hide ((unhide HI).one (unhide HE) hk5 hJ5)
  clear hJ5 hk5 HR HE hy
  have hc3 : W5.cell? ⟨W.heap.size, 3, none⟩ = some (.string r) := (unhide HX).at_.cell rfl
  gi_wp2_with fail
  refine ⟨trivial, callsIn_wide.2 ((ftext_any r W5).mono ?_)⟩
  rintro e W6 ⟨rfl, hb4⟩
  obtain ⟨x, hxe⟩ : ∃ x : Raw, x = textR r := ⟨_, rfl⟩
  have hx : VIn W6 (fun b => B ≤ b ∧ FreeB X W6 b) (textA r) (.agg x.cs.toArray) := by rw [hxe]; exact vin_text (unhide H_hr)
  have hxc : textL r = x.cs := by rw [hxe]; rfl
  rw [hxc]
  have HX := hide ((unhide HX).kp (unhide HI).lst ((kpV X).below hb4))
  have HA_l := hide ((unhide HA_l).kp (unhide HI).lst ((kpV X).below hb4))
  have HK := hide ((kpV X).trans (unhide HK) ((kpV X).below hb4))
  have HI := hide ((unhide HI).below (unhide HJ) hb4)
  obtain ⟨fn, tmps, assign, body, hy, hR⟩ := (unhide HY) (nf - 1) _ x W6 (unhide HI).j (by have := unhide HN; simp; omega)
  have HR := hide hR; have HE := hide hx
  clear hR hx hb4  hc3 hxe hxc
  gi_wp2
  refine (unhide HR).mono ?_
  rintro e W7 ⟨rfl, hJ5, hk5⟩
  have HX := hide ((unhide HX).kp (unhide HI).lst hk5)
  have HA_l := hide ((unhide HA_l).kp (unhide HI).lst hk5)
  have HK := hide ((kpV X).trans (unhide HK) hk5)
  have HI := hide ((unhide HI).one (unhide HE) hk5 hJ5)
  clear hJ5 hk5 HR HE hy
  have HD : Hid (YDone X B J (Vs ++ [numA s, numA c] ++ [numsA l] ++ [textA r]) W (.returned (.bool true)) W7) := ⟨rfl, ⟨_, unhide HI⟩, unhide HK⟩
  gi_wp2
  go_ret
  exact unhide HD
set_option maxHeartbeats 4000000 in
theorem yApp_in (nf : Nat) (hnf : 3 ≤ nf) (X L N B D : Nat) (J : List Raw → World → Prop) (hJ : AbidesFrom D J) (hY : YOn X L N J) (c i : Int) (b : Bool) (hs : AllI [c, i])
    (Vs : List Va) (pre : List Raw) (W : World) (hI : Its X B J Vs pre W) (hN : pre.length + 3 ≤ N) :
    CallsIn Fence.wide nf Tryz.prog 152 #[.agg #[.int .i64 c, .int .i64 i, .bool b], .func (.yield L) #[] #[]] W (YDone X B J (Vs ++ [numA c, numA i] ++ [numA (if b then 1 else 0)]) W) := by
  have HJ := hide hJ; have HY := hide hY; have HI := hide hI; have HN := hide hN
  have H_hs := hide hs
  have h1n : 1 ≤ nf := by omega
  have h2n : 2 ≤ nf - 1 := by omega
  clear hJ hY hI hN hs
  obtain ⟨vb, hvb⟩ : ∃ vb : Value, vb = .bool b := ⟨_, rfl⟩
  rw [← hvb]
  have HVB := hide hvb
  obtain ⟨tb, htb⟩ : ∃ t : Int, t = (if b then 1 else 0) := ⟨_, rfl⟩
  rw [← htb]
  have HTB := hide htb
  clear hvb htb
  refine callsIn_of_wp Tryz.func152 rfl trivial ?_ rfl
  simp only [Tryz.ntmps152, List.size_toArray, List.length_cons, List.length_nil, Nat.reduceAdd, Nat.reduceSub, Array.replicate_succ, Array.replicate_zero, List.push_toArray, List.append_toArray, List.nil_append, List.cons_append]
  gi_wp2_with fail
  generalize hX1 : World.alloc W _ = W1
  have hB1 : Below W.heap.size W W1 := hX1 ▸ (Below.refl _ _).alloc (Nat.le_refl _) _
  have hv1 := boxedV W W1 [.int .i64 c, .int .i64 i, vb] 37 (by rw [← hX1]; rfl)
  have hz1 : W1.heap.size = W.heap.size + 1 := by rw [← hX1]; show (W.heap.push _).size = _; rw [Array.size_push]
  clear hX1
  have HX := hide (show Bx X W1 W.heap.size 37 [.int .i64 c, .int .i64 i, vb] from ⟨hv1, FreeB.new (unhide HI).lst hB1 (Nat.le_refl _) ⟨_, hv1, rfl⟩⟩)
  have HK := hide ((kpV X).below hB1)
  have HI := hide ((unhide HI).below (unhide HJ) hB1)
  clear hB1 hv1
  generalize hXr : World.alloc W1 _ = W2
  have hbr : Below W1.heap.size W1 W2 := hXr ▸ (Below.refl _ _).alloc (Nat.le_refl _) _
  have hrow : W2.heap[(W.heap.size + 1)]? = some (.cells #[.int .i64 c, .int .i64 i] 3 (0, 0)) := by
    rw [← hXr, ← hz1]
    show (W1.heap.push _)[W1.heap.size]? = _
    rw [Array.getElem?_push_size]
  clear hXr hz1
  have HX := hide ((unhide HX).kp (unhide HI).lst ((kpV X).below hbr))
  have HK := hide ((kpV X).trans (unhide HK) ((kpV X).below hbr))
  have HI := hide ((unhide HI).below (unhide HJ) hbr)
  refine ⟨trivial, (yNums_in (nf - 1) h2n L (W.heap.size + 1) 2 [c, i] (by simp) (by simp) N (KpV X) (kpV X) J (fun _ _ => False) D (unhide HJ) ((unhide HY).num _) _ (by have := unhide HN; simp; omega) W2 _ _ hrow (fun j hj => ?_) (unhide HI).j).mono ?_⟩
  · match j, hj with
    | 0, _ => rfl
    | 1, _ => rfl
  rintro e W3 (⟨rfl, hJ3, hk3⟩ | ⟨_, _, _, h⟩)
  case inr => exact h.elim
  have HX := hide ((unhide HX).kp (unhide HI).lst hk3)
  have HK := hide ((kpV X).trans (unhide HK) hk3)
  have HI := hide ((unhide HI).nums (unhide H_hs) hk3 hJ3)
  clear hJ3 hk3 hrow hbr
  have hc2 : W3.cell? ⟨W.heap.size, 2, none⟩ = some (vb) := (unhide HX).at_.cell rfl
  gi_wp2_with fail
  rw [unhide HVB]
  refine ⟨trivial, callsIn_wide.2 (((show Calls Tryz.prog 206 #[.bool b] W3 fun x w' => x = .returned (.agg (numL tb).toArray) ∧ Below (W3).heap.size W3 w' from by have h := ftruth_any b W3; rw [← unhide HTB] at h; exact h)).mono ?_)⟩
  rintro e W4 ⟨rfl, hb4⟩
  obtain ⟨x, hxe⟩ : ∃ x : Raw, x = numR tb := ⟨_, rfl⟩
  have hx : VIn W4 (fun b => B ≤ b ∧ FreeB X W4 b) (numA tb) (.agg x.cs.toArray) := by rw [hxe]; exact vin_num (by rw [unhide HTB]; exact i64_truth b)
  have hxc : numL tb = x.cs := by rw [hxe]; rfl
  rw [hxc]
  have HX := hide ((unhide HX).kp (unhide HI).lst ((kpV X).below hb4))
  have HK := hide ((kpV X).trans (unhide HK) ((kpV X).below hb4))
  have HI := hide ((unhide HI).below (unhide HJ) hb4)
  obtain ⟨fn, tmps, assign, body, hy, hR⟩ := (unhide HY) (nf - 1) _ x W4 (unhide HI).j (by have := unhide HN; simp; omega)
  have HR := hide hR; have HE := hide hx
  clear hR hx hb4  hc2 hxe hxc
  gi_wp2
  refine (unhide HR).mono ?_
  rintro e W5 ⟨rfl, hJ5, hk5⟩
  have HX := hide ((unhide HX).kp (unhide HI).lst hk5)
  have HK := hide ((kpV X).trans (unhide HK) hk5)
  have HI := hide ((unhide HI).one (unhide HE) hk5 hJ5)
  clear hJ5 hk5 HR HE hy
  have HD : Hid (YDone X B J (Vs ++ [numA c, numA i] ++ [numA tb]) W (.returned (.bool true)) W5) := ⟨rfl, ⟨_, unhide HI⟩, unhide HK⟩
  gi_wp2
  go_ret
  exact unhide HD
set_option maxHeartbeats 4000000 in
theorem yFix_in (nf : Nat) (hnf : 3 ≤ nf) (X L N B D : Nat) (J : List Raw → World → Prop) (hJ : AbidesFrom D J) (hY : YOn X L N J) (g : Gm) (v : Int) (hg : AllI (gameL g)) (hv : I64 v)
    (Vs : List Va) (pre : List Raw) (W : World) (hI : Its X B J Vs pre W) (hN : pre.length + 2 ≤ N) :
    CallsIn Fence.wide nf Tryz.prog 149 #[.agg #[.int .i64 g.s, .int .i64 g.c, .int .i64 g.h, .int .i64 g.a, .int .i64 v], .func (.yield L) #[] #[]] W (YDone X B J (Vs ++ [numsA (gameL g)] ++ [numA v]) W) := by
  have HJ := hide hJ; have HY := hide hY; have HI := hide hI; have HN := hide hN
  have H_hg := hide hg
  have H_hv := hide hv
  have h1n : 1 ≤ nf := by omega
  have h2n : 2 ≤ nf - 1 := by omega
  clear hJ hY hI hN hg hv
  refine callsIn_of_wp Tryz.func149 rfl trivial ?_ rfl
  simp only [Tryz.ntmps149, List.size_toArray, List.length_cons, List.length_nil, Nat.reduceAdd, Nat.reduceSub, Array.replicate_succ, Array.replicate_zero, List.push_toArray, List.append_toArray, List.nil_append, List.cons_append]
  gi_wp2_with fail
  generalize hX1 : World.alloc W _ = W1
  have hB1 : Below W.heap.size W W1 := hX1 ▸ (Below.refl _ _).alloc (Nat.le_refl _) _
  have hv1 := boxedV W W1 [.int .i64 g.s, .int .i64 g.c, .int .i64 g.h, .int .i64 g.a, .int .i64 v] 28 (by rw [← hX1]; rfl)
  have hz1 : W1.heap.size = W.heap.size + 1 := by rw [← hX1]; show (W.heap.push _).size = _; rw [Array.size_push]
  clear hX1
  have HX := hide (show Bx X W1 W.heap.size 28 [.int .i64 g.s, .int .i64 g.c, .int .i64 g.h, .int .i64 g.a, .int .i64 v] from ⟨hv1, FreeB.new (unhide HI).lst hB1 (Nat.le_refl _) ⟨_, hv1, rfl⟩⟩)
  have HK := hide ((kpV X).below hB1)
  have HI := hide ((unhide HI).below (unhide HJ) hB1)
  clear hB1 hv1
  refine ⟨trivial, callsIn_wide.2 ((fgame_any g W1).mono ?_)⟩
  rintro e W2 h4
  obtain ⟨x, rfl, hnew, hb4⟩ := h4.new (unhide H_hg) (by simp [gameL])
  have hx := hnew.fr (unhide HI).lst hb4 (unhide HI).big
  have HX := hide ((unhide HX).kp (unhide HI).lst ((kpV X).below hb4))
  have HK := hide ((kpV X).trans (unhide HK) ((kpV X).below hb4))
  have HI := hide ((unhide HI).below (unhide HJ) hb4)
  obtain ⟨fn, tmps, assign, body, hy, hR⟩ := (unhide HY) (nf - 1) _ x W2 (unhide HI).j (by have := unhide HN; simp; omega)
  have HR := hide hR; have HE := hide hx
  clear hR hx hb4 hnew h4 
  gi_wp2
  refine (unhide HR).mono ?_
  rintro e W3 ⟨rfl, hJ5, hk5⟩
  have HX := hide ((unhide HX).kp (unhide HI).lst hk5)
  have HK := hide ((kpV X).trans (unhide HK) hk5)
  have HI := hide ((unhide HI).one (unhide HE) hk5 hJ5)
  clear hJ5 hk5 HR HE hy
  have hc4 : W3.cell? ⟨W.heap.size, 4, none⟩ = some (.int .i64 v) := (unhide HX).at_.cell rfl
  gi_wp2_with fail
  refine ⟨trivial, callsIn_wide.2 ((fnumber_any v W3).mono ?_)⟩
  rintro e W4 ⟨rfl, hb4⟩
  obtain ⟨x, hxe⟩ : ∃ x : Raw, x = numR v := ⟨_, rfl⟩
  have hx : VIn W4 (fun b => B ≤ b ∧ FreeB X W4 b) (numA v) (.agg x.cs.toArray) := by rw [hxe]; exact vin_num (unhide H_hv)
  have hxc : numL v = x.cs := by rw [hxe]; rfl
  rw [hxc]
  have HX := hide ((unhide HX).kp (unhide HI).lst ((kpV X).below hb4))
  have HK := hide ((kpV X).trans (unhide HK) ((kpV X).below hb4))
  have HI := hide ((unhide HI).below (unhide HJ) hb4)
  obtain ⟨fn, tmps, assign, body, hy, hR⟩ := (unhide HY) (nf - 1) _ x W4 (unhide HI).j (by have := unhide HN; simp; omega)
  have HR := hide hR; have HE := hide hx
  clear hR hx hb4  hc4 hxe hxc
  gi_wp2
  refine (unhide HR).mono ?_
  rintro e W5 ⟨rfl, hJ5, hk5⟩
  have HX := hide ((unhide HX).kp (unhide HI).lst hk5)
  have HK := hide ((kpV X).trans (unhide HK) hk5)
  have HI := hide ((unhide HI).one (unhide HE) hk5 hJ5)
  clear hJ5 hk5 HR HE hy
  have HD : Hid (YDone X B J (Vs ++ [numsA (gameL g)] ++ [numA v]) W (.returned (.bool true)) W5) := ⟨rfl, ⟨_, unhide HI⟩, unhide HK⟩
  gi_wp2
  go_ret
  exact unhide HD
set_option maxHeartbeats 4000000 in
theorem yRul_in (nf : Nat) (hnf : 3 ≤ nf) (X L N B D : Nat) (J : List Raw → World → Prop) (hJ : AbidesFrom D J) (hY : YOn X L N J) (r : Ru) (h1 : AllI [r.cas, r.ins, r.kind]) (hg : AllI (gameL r.g)) (h2 : AllI [r.club, r.player, r.s, r.c, r.points, r.amount]) (h3 : AllI [r.hg, r.ag, r.from_, r.to_])
    (Vs : List Va) (pre : List Raw) (W : World) (hI : Its X B J Vs pre W) (hN : pre.length + 14 ≤ N) :
    CallsIn Fence.wide nf Tryz.prog 151 #[.agg #[.int .i64 r.cas, .int .i64 r.ins, .int .i64 r.kind, .int .i64 r.g.s, .int .i64 r.g.c, .int .i64 r.g.h, .int .i64 r.g.a, .int .i64 r.club, .int .i64 r.player, .int .i64 r.s, .int .i64 r.c, .int .i64 r.points, .int .i64 r.amount, .int .i64 r.hg, .int .i64 r.ag, .int .i64 r.from_, .int .i64 r.to_], .func (.yield L) #[] #[]] W (YDone X B J (Vs ++ [numA r.cas, numA r.ins, numA r.kind] ++ [numsA (gameL r.g)] ++ [numA r.club, numA r.player, numA r.s, numA r.c, numA r.points, numA r.amount] ++ [numA r.hg, numA r.ag, numA r.from_, numA r.to_]) W) := by
  have HJ := hide hJ; have HY := hide hY; have HI := hide hI; have HN := hide hN
  have H_h1 := hide h1
  have H_hg := hide hg
  have H_h2 := hide h2
  have H_h3 := hide h3
  have h1n : 1 ≤ nf := by omega
  have h2n : 2 ≤ nf - 1 := by omega
  clear hJ hY hI hN h1 hg h2 h3
  refine callsIn_of_wp Tryz.func151 rfl trivial ?_ rfl
  simp only [Tryz.ntmps151, List.size_toArray, List.length_cons, List.length_nil, Nat.reduceAdd, Nat.reduceSub, Array.replicate_succ, Array.replicate_zero, List.push_toArray, List.append_toArray, List.nil_append, List.cons_append]
  gi_wp2_with fail
  generalize hX1 : World.alloc W _ = W1
  have hB1 : Below W.heap.size W W1 := hX1 ▸ (Below.refl _ _).alloc (Nat.le_refl _) _
  have hv1 := boxedV W W1 [.int .i64 r.cas, .int .i64 r.ins, .int .i64 r.kind, .int .i64 r.g.s, .int .i64 r.g.c, .int .i64 r.g.h, .int .i64 r.g.a, .int .i64 r.club, .int .i64 r.player, .int .i64 r.s, .int .i64 r.c, .int .i64 r.points, .int .i64 r.amount, .int .i64 r.hg, .int .i64 r.ag, .int .i64 r.from_, .int .i64 r.to_] 35 (by rw [← hX1]; rfl)
  have hz1 : W1.heap.size = W.heap.size + 1 := by rw [← hX1]; show (W.heap.push _).size = _; rw [Array.size_push]
  clear hX1
  have HX := hide (show Bx X W1 W.heap.size 35 [.int .i64 r.cas, .int .i64 r.ins, .int .i64 r.kind, .int .i64 r.g.s, .int .i64 r.g.c, .int .i64 r.g.h, .int .i64 r.g.a, .int .i64 r.club, .int .i64 r.player, .int .i64 r.s, .int .i64 r.c, .int .i64 r.points, .int .i64 r.amount, .int .i64 r.hg, .int .i64 r.ag, .int .i64 r.from_, .int .i64 r.to_] from ⟨hv1, FreeB.new (unhide HI).lst hB1 (Nat.le_refl _) ⟨_, hv1, rfl⟩⟩)
  have HK := hide ((kpV X).below hB1)
  have HI := hide ((unhide HI).below (unhide HJ) hB1)
  clear hB1 hv1
  generalize hXr : World.alloc W1 _ = W2
  have hbr : Below W1.heap.size W1 W2 := hXr ▸ (Below.refl _ _).alloc (Nat.le_refl _) _
  have hrow : W2.heap[(W.heap.size + 1)]? = some (.cells #[.int .i64 r.cas, .int .i64 r.ins, .int .i64 r.kind] 3 (0, 0)) := by
    rw [← hXr, ← hz1]
    show (W1.heap.push _)[W1.heap.size]? = _
    rw [Array.getElem?_push_size]
  clear hXr hz1
  have HX := hide ((unhide HX).kp (unhide HI).lst ((kpV X).below hbr))
  have HK := hide ((kpV X).trans (unhide HK) ((kpV X).below hbr))
  have HI := hide ((unhide HI).below (unhide HJ) hbr)
  refine ⟨trivial, (yNums_in (nf - 1) h2n L (W.heap.size + 1) 3 [r.cas, r.ins, r.kind] (by simp) (by simp) N (KpV X) (kpV X) J (fun _ _ => False) D (unhide HJ) ((unhide HY).num _) _ (by have := unhide HN; simp; omega) W2 _ _ hrow (fun j hj => ?_) (unhide HI).j).mono ?_⟩
  · match j, hj with
    | 0, _ => rfl
    | 1, _ => rfl
    | 2, _ => rfl
  rintro e W3 (⟨rfl, hJ3, hk3⟩ | ⟨_, _, _, h⟩)
  case inr => exact h.elim
  have HX := hide ((unhide HX).kp (unhide HI).lst hk3)
  have HK := hide ((kpV X).trans (unhide HK) hk3)
  have HI := hide ((unhide HI).nums (unhide H_h1) hk3 hJ3)
  clear hJ3 hk3 hrow hbr
  have hc3 : W3.cell? ⟨W.heap.size, 3, none⟩ = some (.int .i64 r.g.s) := (unhide HX).at_.cell rfl
  have hc4 : W3.cell? ⟨W.heap.size, 4, none⟩ = some (.int .i64 r.g.c) := (unhide HX).at_.cell rfl
  have hc5 : W3.cell? ⟨W.heap.size, 5, none⟩ = some (.int .i64 r.g.h) := (unhide HX).at_.cell rfl
  have hc6 : W3.cell? ⟨W.heap.size, 6, none⟩ = some (.int .i64 r.g.a) := (unhide HX).at_.cell rfl
  gi_wp2_with fail
  refine ⟨trivial, callsIn_wide.2 ((fgame_any r.g W3).mono ?_)⟩
  rintro e W4 h4
  obtain ⟨x, rfl, hnew, hb4⟩ := h4.new (unhide H_hg) (by simp [gameL])
  have hx := hnew.fr (unhide HI).lst hb4 (unhide HI).big
  have HX := hide ((unhide HX).kp (unhide HI).lst ((kpV X).below hb4))
  have HK := hide ((kpV X).trans (unhide HK) ((kpV X).below hb4))
  have HI := hide ((unhide HI).below (unhide HJ) hb4)
  obtain ⟨fn, tmps, assign, body, hy, hR⟩ := (unhide HY) (nf - 1) _ x W4 (unhide HI).j (by have := unhide HN; simp; omega)
  have HR := hide hR; have HE := hide hx
  clear hR hx hb4 hnew h4 hc3 hc4 hc5 hc6
  gi_wp2
  refine (unhide HR).mono ?_
  rintro e W5 ⟨rfl, hJ5, hk5⟩
  have HX := hide ((unhide HX).kp (unhide HI).lst hk5)
  have HK := hide ((kpV X).trans (unhide HK) hk5)
  have HI := hide ((unhide HI).one (unhide HE) hk5 hJ5)
  clear hJ5 hk5 HR HE hy
  have hc7 : W5.cell? ⟨W.heap.size, 7, none⟩ = some (.int .i64 r.club) := (unhide HX).at_.cell rfl
  have hc8 : W5.cell? ⟨W.heap.size, 8, none⟩ = some (.int .i64 r.player) := (unhide HX).at_.cell rfl
  have hc9 : W5.cell? ⟨W.heap.size, 9, none⟩ = some (.int .i64 r.s) := (unhide HX).at_.cell rfl
  have hc10 : W5.cell? ⟨W.heap.size, 10, none⟩ = some (.int .i64 r.c) := (unhide HX).at_.cell rfl
  have hc11 : W5.cell? ⟨W.heap.size, 11, none⟩ = some (.int .i64 r.points) := (unhide HX).at_.cell rfl
  have hc12 : W5.cell? ⟨W.heap.size, 12, none⟩ = some (.int .i64 r.amount) := (unhide HX).at_.cell rfl
  gi_wp2_with fail
  generalize hXr : World.alloc W5 _ = W6
  have hbr : Below W5.heap.size W5 W6 := hXr ▸ (Below.refl _ _).alloc (Nat.le_refl _) _
  have hrow : W6.heap[W5.heap.size]? = some (.cells #[.int .i64 r.club, .int .i64 r.player, .int .i64 r.s, .int .i64 r.c, .int .i64 r.points, .int .i64 r.amount] 3 (0, 0)) := by
    rw [← hXr]
    show (W5.heap.push _)[W5.heap.size]? = _
    rw [Array.getElem?_push_size]
  clear hXr hc7 hc8 hc9 hc10 hc11 hc12
  have HX := hide ((unhide HX).kp (unhide HI).lst ((kpV X).below hbr))
  have HK := hide ((kpV X).trans (unhide HK) ((kpV X).below hbr))
  have HI := hide ((unhide HI).below (unhide HJ) hbr)
  refine ⟨trivial, (yNums_in (nf - 1) h2n L W5.heap.size 6 [r.club, r.player, r.s, r.c, r.points, r.amount] (by simp) (by simp) N (KpV X) (kpV X) J (fun _ _ => False) D (unhide HJ) ((unhide HY).num _) _ (by have := unhide HN; simp; omega) W6 _ _ hrow (fun j hj => ?_) (unhide HI).j).mono ?_⟩
  · match j, hj with
    | 0, _ => rfl
    | 1, _ => rfl
    | 2, _ => rfl
    | 3, _ => rfl
    | 4, _ => rfl
    | 5, _ => rfl
  rintro e W7 (⟨rfl, hJ3, hk3⟩ | ⟨_, _, _, h⟩)
  case inr => exact h.elim
  have HX := hide ((unhide HX).kp (unhide HI).lst hk3)
  have HK := hide ((kpV X).trans (unhide HK) hk3)
  have HI := hide ((unhide HI).nums (unhide H_h2) hk3 hJ3)
  clear hJ3 hk3 hrow hbr
  have hc13 : W7.cell? ⟨W.heap.size, 13, none⟩ = some (.int .i64 r.hg) := (unhide HX).at_.cell rfl
  have hc14 : W7.cell? ⟨W.heap.size, 14, none⟩ = some (.int .i64 r.ag) := (unhide HX).at_.cell rfl
  have hc15 : W7.cell? ⟨W.heap.size, 15, none⟩ = some (.int .i64 r.from_) := (unhide HX).at_.cell rfl
  have hc16 : W7.cell? ⟨W.heap.size, 16, none⟩ = some (.int .i64 r.to_) := (unhide HX).at_.cell rfl
  gi_wp2_with fail
  generalize hXr : World.alloc W7 _ = W8
  have hbr : Below W7.heap.size W7 W8 := hXr ▸ (Below.refl _ _).alloc (Nat.le_refl _) _
  have hrow : W8.heap[W7.heap.size]? = some (.cells #[.int .i64 r.hg, .int .i64 r.ag, .int .i64 r.from_, .int .i64 r.to_] 3 (0, 0)) := by
    rw [← hXr]
    show (W7.heap.push _)[W7.heap.size]? = _
    rw [Array.getElem?_push_size]
  clear hXr hc13 hc14 hc15 hc16
  have HX := hide ((unhide HX).kp (unhide HI).lst ((kpV X).below hbr))
  have HK := hide ((kpV X).trans (unhide HK) ((kpV X).below hbr))
  have HI := hide ((unhide HI).below (unhide HJ) hbr)
  refine ⟨trivial, (yNums_in (nf - 1) h2n L W7.heap.size 4 [r.hg, r.ag, r.from_, r.to_] (by simp) (by simp) N (KpV X) (kpV X) J (fun _ _ => False) D (unhide HJ) ((unhide HY).num _) _ (by have := unhide HN; simp; omega) W8 _ _ hrow (fun j hj => ?_) (unhide HI).j).mono ?_⟩
  · match j, hj with
    | 0, _ => rfl
    | 1, _ => rfl
    | 2, _ => rfl
    | 3, _ => rfl
  rintro e W9 (⟨rfl, hJ3, hk3⟩ | ⟨_, _, _, h⟩)
  case inr => exact h.elim
  have HX := hide ((unhide HX).kp (unhide HI).lst hk3)
  have HK := hide ((kpV X).trans (unhide HK) hk3)
  have HI := hide ((unhide HI).nums (unhide H_h3) hk3 hJ3)
  clear hJ3 hk3 hrow hbr
  have HD : Hid (YDone X B J (Vs ++ [numA r.cas, numA r.ins, numA r.kind] ++ [numsA (gameL r.g)] ++ [numA r.club, numA r.player, numA r.s, numA r.c, numA r.points, numA r.amount] ++ [numA r.hg, numA r.ag, numA r.from_, numA r.to_]) W (.returned (.bool true)) W9) := ⟨rfl, ⟨_, unhide HI⟩, unhide HK⟩
  gi_wp2
  go_ret
  exact unhide HD
end Go.Proofs.YtdmaopfaeigelaaGreatDoor
namespace Go.Proofs.YtdmaopfaeigelaaGreatDoor
set_option linter.unusedSimpArgs false
set_option linter.unusedVariables false
set_option maxRecDepth 100000
open Go.RowKit Go.Shelf

def redI (b : Bool) : Int := if b then 1 else 0
def cardA (c : Cd) : Va := .mk 3 0 ByteArray.empty [numA c.p, numA (redI c.red)] []
def cardsA (l : List Cd) : Va := .mk 3 0 ByteArray.empty (l.map cardA) []
def AllC (l : List Cd) : Prop := ∀ c ∈ l, I64 c.p
theorem vin_pair {W : World} {P : Nat → Prop} {E : Nat} {p t : Int} (h : VsAt W E 66 (numL p ++ numL t)) (hP : P E) (hp : I64 p) (ht : I64 t) : VIn W P (.mk 3 0 ByteArray.empty [numA p, numA t] []) (.agg (listL (.slice (some ⟨E, 0, none⟩) 2 2)).toArray) := by
  refine .mk 3 0 ByteArray.empty [numA p, numA t] [] (some ⟨E, 0, none⟩) 2 none 0 ⟨by decide, by decide⟩ ⟨by decide, by decide⟩ (by decide) (by simp) (by simp) (fun e => by cases e) (fun _ => rfl) (by simp) E 0 (fun i => match i with | 0 => .agg (numL p).toArray | _ => .agg (numL t).toArray) ?_ ?_ 0 0 (fun i s hi => by simp at hi)
  · intro i hi
    refine ⟨rfl, hP, ?_⟩
    match i, hi with
    | 0, _ => exact ⟨_, _, _, _, _, rfl, h.cell rfl, h.cell rfl, h.cell rfl, h.cell rfl, h.cell rfl⟩
    | 1, _ => exact ⟨_, _, _, _, _, rfl, h.cell rfl, h.cell rfl, h.cell rfl, h.cell rfl, h.cell rfl⟩
  · intro i V hi
    match i, hi with
    | 0, hi => simp at hi; subst hi; exact vin_num hp
    | 1, hi => simp at hi; subst hi; exact vin_num ht
    | n + 2, hi => simp at hi
/-- the blocks of the elements: made since, neither the list's box nor its row -/
def CP (B N : Nat) (v : Value) (W : World) (b : Nat) : Prop := B < b ∧ b < W.heap.size ∧ b ≠ N ∧ v.ownBlock ≠ some b
def ElsC (B N : Nat) (v : Value) (l : List Cd) (ys : List Raw) (W : World) : Prop := ∀ (i : Nat) (x : Raw) (c : Cd), ys[i]? = some x → l[i]? = some c → VIn W (CP B N v W) (cardA c) (.agg x.cs.toArray)
theorem ElsC.below {B N : Nat} {v : Value} {l : List Cd} {ys : List Raw} {W W' : World} (h : ElsC B N v l ys W) (hb : Below W.heap.size W W') : ElsC B N v l ys W' :=
  fun i x c h1 h2 => (h i x c h1 h2).keep (fun b hp => ⟨hp.1, Nat.lt_of_lt_of_le hp.2.1 hb.size, hp.2.2⟩) fun b hp => hb.block b hp.2.1
theorem ElsC.snoc {B N : Nat} {v : Value} {l : List Cd} {ys : List Raw} {W : World} {x : Raw} {c : Cd} (h : ElsC B N v l ys W) (hx : VIn W (CP B N v W) (cardA c) (.agg x.cs.toArray)) (hc : l[ys.length]? = some c) : ElsC B N v l (ys ++ [x]) W := by
  intro i y d h1 h2
  by_cases hi : i < ys.length
  · rw [List.getElem?_append_left hi] at h1
    exact h i y d h1 h2
  · rw [List.getElem?_append_right (by omega)] at h1
    have e : i = ys.length := by
      have := (List.getElem?_eq_some_iff.1 h1).1
      simp at this
      omega
    subst e
    simp at h1
    subst h1
    rw [hc] at h2
    cases h2
    exact hx
theorem ElsC.step {B N : Nat} {v v' : Value} {l : List Cd} {ys : List Raw} {W W1 W2 : World} (h : ElsC B N v l ys W) (hg : W.grownBy W1 v.ownBlock) (hob : v'.ownBlock = v.ownBlock ∨ v'.ownBlock = some W.heap.size) (hg2 : W1.grownBy W2 (some N)) : ElsC B N v' l ys W2 := by
  intro i x c h1 h2
  refine (h i x c h1 h2).keep (fun b hp => ⟨hp.1, by have := hg.size; have := hg2.size; have := hp.2.1; omega, hp.2.2.1, fun e => ?_⟩) fun b hp => ?_
  · rcases hob with q | q
    · exact hp.2.2.2 (q.symm.trans e)
    · have q2 := q.symm.trans e
      have := Option.some.inj q2
      have := hp.2.1
      omega
  · exact (hg2.block b (by have := hg.size; have := hp.2.1; omega) (fun e => hp.2.2.1 (Option.some.inj e))).trans (hg.block b hp.2.1 (fun e => hp.2.2.2 e.symm))
def CardsIs (w : World) (l : List Cd) (e : Ending) (w' : World) : Prop :=
  ∃ v ys, e = .returned (.agg (listL v).toArray) ∧ ys.length = l.length ∧ w'.ownsRow (w.heap.size + 1) 66 5 v ys.length (rawCells ys) ∧ Below w.heap.size w w' ∧ (∀ (i : Nat) (x : Raw) (c : Cd), ys[i]? = some x → l[i]? = some c → VIn w' (fun b => w.heap.size ≤ b ∧ b < w'.heap.size) (cardA c) (.agg x.cs.toArray))
theorem CardsIs.new {w w' : World} {l : List Cd} {e : Ending} (h : CardsIs w l e w') (hn : l.length ≤ 1000) : ∃ x : Raw, e = .returned (.agg x.cs.toArray) ∧ VNew w (cardsA l) (.agg x.cs.toArray) w' ∧ Below w.heap.size w w' := by
  obtain ⟨v, ys, rfl, hl, ho, hb, hv⟩ := h
  have hv1 : v.oneCell' = true := by obtain ⟨A, c, rfl⟩ := ownSlice' ho; rfl
  refine ⟨⟨listL v, rfl, listL_one hv1⟩, rfl, ?_, hb⟩
  refine vin_row ho (by rw [List.length_map, hl]) ?_ (by omega) (fun q e => ⟨by have := (ho.lt q e).1; omega, (ho.lt q e).2⟩)
  intro i x V h1 h2
  rw [List.getElem?_map] at h2
  cases hx : l[i]? with
  | none => rw [hx] at h2; cases h2
  | some c =>
    rw [hx] at h2
    simp at h2
    subst h2
    exact hv i x c h1 hx
theorem infoCd : (Tryz.prog.info? 139).map (·.size) = some 2 := by kernel_rfl
set_option maxHeartbeats 16000000 in
theorem fcards_any (A : Option Addr) (c : Nat) (l : List Cd) (w : World) (hA : Sc w A l c) (hAll : AllC l) : Calls Tryz.prog 205 #[.slice A l.length c] w (CardsIs w l) := by
  obtain ⟨n, hn⟩ : ∃ n, n = l.length := ⟨_, rfl⟩
  rw [← hn]
  have HA := hide hA; have HALL := hide hAll
  have HN : Hid (n = l.length ∧ n ≤ 1000) := ⟨hn, by have := hA.few; omega⟩
  have kc : (n : Int) ≤ (c : Int) := by have := hA.cap; omega
  clear hA hn hAll
  obtain ⟨i0, hi, hz0, hz1, hz2⟩ := info_parts infoVv
  go_enter Tryz.func205, Tryz.ntmps205
  go_upto_region 1 with fail
  generalize hX1 : w.alloc _ = W1
  have hB1 : Below w.heap.size w W1 := hX1 ▸ (Below.refl _ _).alloc (Nat.le_refl _) _
  have hv1 := boxedV w W1 fzeroV 66 (by rw [← hX1]; rfl)
  have hz : W1.heap.size = w.heap.size + 1 := by rw [← hX1]; show (w.heap.push _).size = _; rw [Array.size_push]
  clear hX1
  obtain ⟨W2, hmk, hown, hgr⟩ := run_make_own (P := Tryz.prog) (w := W1) (w.heap.size + 1) 63 66 i0 (.agg fzeroV.toArray) 5 Tryz.underlying63 hi hz0 hz1 .i64 .i64 n (by rw [hz2]; have := (unhide HN).2; omega) (by unfold maxLen; have := (unhide HN).2; omega) (by omega)
  rw [hz] at hmk hown
  refine wp_region_lit ?_
  refine wpList_plain rfl fun Kt hKt => ?_
  go_simp
  refine hKt _ _ ?_
  clear hKt Kt
  try simp only [List.getElem_toArray, List.getElem_cons_zero, List.getElem_cons_succ, Act.put, List.setIfInBounds_toArray, List.set_cons_zero, List.set_cons_succ]
  refine wpList_plain rfl fun Kt hKt => ?_
  go_simp
  refine hKt _ _ ?_
  clear hKt Kt
  try simp only [List.getElem_toArray, List.getElem_cons_zero, List.getElem_cons_succ, Act.put, List.setIfInBounds_toArray, List.set_cons_zero, List.set_cons_succ]
  refine wpList_plain rfl fun Kt hKt => ?_
  go_simp
  refine hKt _ _ ?_
  clear hKt Kt
  try simp only [List.getElem_toArray, List.getElem_cons_zero, List.getElem_cons_succ, Act.put, List.setIfInBounds_toArray, List.set_cons_zero, List.set_cons_succ]
  refine wpList_build rfl 66 _ rfl (listL (.slice (some ⟨w.heap.size + 1, 0, none⟩) 0 n)).toArray (by kernel_rfl) ?_
  try simp only [List.getElem_toArray, List.getElem_cons_zero, List.getElem_cons_succ, Act.put, List.setIfInBounds_toArray, List.set_cons_zero, List.set_cons_succ]
  refine wpList_plain rfl fun Kt hKt => ?_
  go_simp
  generalize hX3 : W2.alloc _ = W3
  obtain ⟨N, hNN⟩ : ∃ N, N = W2.heap.size := ⟨_, rfl⟩
  have hB3 : Below W2.heap.size W2 W3 := hX3 ▸ (Below.refl _ _).alloc (Nat.le_refl _) _
  have hv3 := boxedV W2 W3 fzeroV 66 (by rw [← hX3]; rfl)
  rw [← hNN] at hv3 ⊢
  refine hKt _ _ ?_
  clear hKt Kt hX3 hmk
  try simp only [List.getElem_toArray, List.getElem_cons_zero, List.getElem_cons_succ, Act.put, List.setIfInBounds_toArray, List.set_cons_zero, List.set_cons_succ]
  have hgN := (hown.lt (w.heap.size + 1) rfl).2
  have hNl : w.heap.size + 1 < N := by rw [hNN]; exact hgN
  have hb12 : Below w.heap.size w W2 := hB1.grown hgr (by omega) (fun q e => by cases e)
  have hR2 : VsAt W2 w.heap.size 66 fzeroV := hv1.grown hgr (fun e => by cases e)
  have hr3 := own_below hown hB3
  have hR3 := hR2.keep hB3
  have hb13 := thenB hb12 hB3
  refine wpList_vput rfl 66 (.tmp 3) (.tmp 9) rfl N 0 rfl (listL (.slice (some ⟨w.heap.size + 1, 0, none⟩) 0 n)) rfl infoVl (listL_one rfl) _ fzeroV hv3 (show 0 + 5 ≤ 5 by omega) ?_
  intro W4 HX HG
  rw [spliceV_all fzeroV (listL (.slice (some ⟨w.heap.size + 1, 0, none⟩) 0 n)) rfl] at HX
  have HR := hide (hR3.grown (unhide HG) (fun e => by injection e with e; omega))
  have HO := hide (hr3.kept (unhide HG) (.inr (fun e => by injection e with e; have e : w.heap.size + 1 = N := e; omega)))
  have HB := hide (hb13.grown (unhide HG) hb13.size (fun i e => by injection e with e; omega))
  have HNL := hide hNl
  clear HG hb13 hR3 hr3 hR2 hb12 hgN hB3 hv3 hNN hown hgr hB1 hv1 hz hNl
  refine wpList_nil ?_
  go_wp2_with fail
  go_loopg [12] n (fun g y12 wx => ∃ (k : Nat) (v : Value) (ys : List Raw), y12 = .int .i64 (k : Int) ∧ g + k = n ∧ ys.length = k ∧ VsAt wx N 66 (listL v) ∧ wx.ownsRow (w.heap.size + 1) 66 5 v k (rawCells ys) ∧ v.ownBlock ≠ some N ∧ VsAt wx w.heap.size 66 fzeroV ∧ Below w.heap.size w wx ∧ ElsC w.heap.size N v l ys wx)
  case atStart => exact ⟨0, _, [], rfl, by omega, rfl, unhide HX, unhide HO, fun e => by injection e with e; have e : w.heap.size + 1 = N := e; have := unhide HNL; omega, unhide HR, unhide HB, fun i x c h => by simp at h⟩
  case round =>
    clear HX HO HR HB
    obtain ⟨k, vL, ys, rfl, hk, hyl, hx, ho, hvN, hr, hb, hels⟩ := hrel
    by_cases hkn : k < n
    · obtain ⟨g, rfl⟩ : ∃ g, gk = g + 1 := ⟨gk - 1, by omega⟩
      have i1 : (k : Int) < (n : Int) := by omega
      have i0' : (0 : Int) ≤ (k : Int) := Int.natCast_nonneg _
      have wk : IntKind.i64.wrap ((k : Int) + 1) = ((k + 1 : Nat) : Int) := (IntWalk.i64_in _ (by have := unhide HN; omega)).trans (by omega)
      obtain ⟨cd, hcd⟩ : ∃ cd, l[k]? = some cd := ⟨_, List.getElem?_eq_getElem (by have := unhide HN; omega)⟩
      obtain ⟨b, o, rfl, hc⟩ := ((unhide HA).it.keep hb).at_ (fun e => by rw [e] at hcd; simp at hcd)
      have h1 := hc k cd hcd
      have HI6 := hide ((unhide HALL) cd (List.mem_of_getElem? hcd))
      obtain ⟨pl, rd⟩ := cd
      have HCD := hide hcd
      have HK : Hid (k < n ∧ g + 1 + k = n ∧ ys.length = k) := ⟨hkn, hk, hyl⟩
      obtain ⟨A, cc, rfl⟩ := ownSlice' ho
      obtain ⟨xs, hxs⟩ : ∃ xs, xs = rawCells ys := ⟨_, rfl⟩
      rw [← hxs] at ho
      have HXS := hide hxs
      have HH1 := hide h1
      have hNlt := lt_of_block hx
      have hoLt := fun q e => (ho.lt q e).2
      have hWs := hb.size
      have HF := hide hx; have HO := hide ho; have HR := hide hr; have HB := hide hb; have HVN := hide hvN; have HEL := hide hels
      obtain ⟨tr, htr⟩ : ∃ t : Int, t = redI rd := ⟨_, rfl⟩
      have HTR := hide htr
      have HTC : Hid (∀ W : World, Calls Tryz.prog 206 #[.bool rd] W fun x w' => x = .returned (.agg #[.int .i64 1, .int .i64 tr, .string ByteArray.empty, .slice none 0 0, .slice none 0 0]) ∧ Below W.heap.size W w') := by
        have : ∀ W : World, Calls Tryz.prog 206 #[.bool rd] W fun x w' => x = .returned (.agg #[.int .i64 1, .int .i64 tr, .string ByteArray.empty, .slice none 0 0, .slice none 0 0]) ∧ Below W.heap.size W w' := by
          intro W
          have h := ftruth_any rd W
          rw [show (if rd then (1 : Int) else 0) = tr from htr.symm] at h
          exact h
        exact this
      clear hc hkn hk hyl hx ho hvN hr hb hels hxs h1 hcd htr
      obtain ⟨vr, hvr⟩ : ∃ vr : Value, vr = .bool rd := ⟨_, rfl⟩
      have HVR := hide hvr
      clear hvr
      go_upto_region 4 with fail
      refine wp_region_lit ?_
      refine wpList_plain rfl fun Kt hKt => ?_
      go_simp
      refine hKt _ _ ?_
      clear hKt Kt
      try simp only [List.getElem_toArray, List.getElem_cons_zero, List.getElem_cons_succ, Act.put, List.setIfInBounds_toArray, List.set_cons_zero, List.set_cons_succ]
      refine wpList_vload rfl 139 (.tmp 14) rfl b (o + k * 2) (by first | rfl | (simp; done)) _ Tryz.underlying139 rfl [.int .i64 pl, vr] infoCd (fun j v hj => by
        match j, hj with
        | 0, hj => simp at hj; subst hj; exact (unhide HH1).1
        | 1, hj => simp at hj; subst hj; rw [unhide HVR]; exact (unhide HH1).2
        | m + 2, hj => simp at hj) ?_
      try simp only [List.getElem_toArray, List.getElem_cons_zero, List.getElem_cons_succ, Act.put, List.setIfInBounds_toArray, List.set_cons_zero, List.set_cons_succ]
      refine wpList_plain rfl fun Kt hKt => ?_
      go_simp
      generalize hXc : World.alloc _ _ = Wc
      have hGc : Below wr.heap.size wr Wc := hXc ▸ (Below.refl _ _).alloc (Nat.le_refl _) _
      have hvc := boxedV wr Wc [.int .i64 0, .bool false] 139 (by rw [← hXc]; rfl)
      refine hKt _ _ ?_
      clear hKt Kt hXc
      try simp only [List.getElem_toArray, List.getElem_cons_zero, List.getElem_cons_succ, Act.put, List.setIfInBounds_toArray, List.set_cons_zero, List.set_cons_succ]
      obtain ⟨CB, hCB⟩ : ∃ CB, CB = wr.heap.size := ⟨_, rfl⟩
      rw [← hCB] at hvc ⊢
      have hone : ∀ v ∈ [Value.int .i64 pl, vr], v.oneCell' = true := by
        intro v hv
        simp at hv
        rcases hv with rfl | rfl
        · rfl
        · rw [unhide HVR]; rfl
      refine wpList_vput rfl 139 (.tmp 5) (.tmp 15) rfl CB 0 rfl [.int .i64 pl, vr] rfl infoCd hone _ [.int .i64 0, .bool false] hvc (show 0 + 2 ≤ 2 by omega) ?_
      intro We HCV HGe
      rw [spliceV_all [.int .i64 0, .bool false] [.int .i64 pl, vr] rfl] at HCV
      have hWe : Below wr.heap.size wr We := hGc.grown (unhide HGe) hGc.size (fun i e => by injection e with e; omega)
      refine wpList_nil ?_
      obtain ⟨Wd, hWd⟩ : ∃ Wd, Wd = We.drewN 1 := ⟨_, rfl⟩
      have HWd : Hid (Wd = We.drewN 1) := hWd
      have hbd : Below We.heap.size We Wd := below_named HWd
      have hbd2 := thenB hWe hbd
      have HF := hide ((unhide HF).keep hbd2); have HO := hide (own_below (unhide HO) hbd2); have HR := hide ((unhide HR).keep hbd2); have HB := hide (thenB (unhide HB) hbd2); have HEL := hide ((unhide HEL).below hbd2)
      have hS := (unhide HCV).keep hbd
      have HCN : Hid (CB ≠ N) := fun e => by omega
      have HCO : Hid (Value.ownBlock (.slice A k cc) ≠ some CB) := fun e => by have := (hoLt _ e); omega
      clear hbd2 hbd hWd hWe HGe HCV hone hvc hGc hCB hNlt hWs hoLt HH1
      go_upto_region 5 with fail
      refine held (S := fun V => VsAt V CB 139 [.int .i64 pl, vr]) Wd HWd (by kernel_rfl) ?_
      refine wpAnyH_take (i := 0) (v := ?_) rfl (by kernel_rfl) (by kernel_rfl) (by kernel_rfl) (fun _ _ _ h => h) (Or.inl ⟨by kernel_rfl, ?_⟩) (by assumption) ?_
      rotate_left
      · intro Wt hSt
        go_simp
        try with_reducible rfl
      try simp only [List.getElem_toArray, List.getElem_cons_zero, List.getElem_cons_succ, Act.put, List.setIfInBounds_toArray, List.set_cons_zero, List.set_cons_succ]
      refine wpAnyH_take (i := 2) (v := ?_) rfl (by kernel_rfl) (by kernel_rfl) (by kernel_rfl) (fun _ _ _ h => h) (Or.inl ⟨by kernel_rfl, ?_⟩) (by assumption) ?_
      rotate_left
      · intro Wt hSt
        go_simp
        try with_reducible rfl
      try simp only [List.getElem_toArray, List.getElem_cons_zero, List.getElem_cons_succ, Act.put, List.setIfInBounds_toArray, List.set_cons_zero, List.set_cons_succ]
      refine wpAnyH_take (i := 3) (v := ?_) rfl (by kernel_rfl) (by kernel_rfl) (by kernel_rfl) (fun _ _ _ h => h) (Or.inl ⟨by kernel_rfl, ?_⟩) (by assumption) ?_
      rotate_left
      · intro Wt hSt
        have hct := (show Wt.cell? ⟨CB, 0, none⟩ = some (.int .i64 pl) from hSt.cell rfl)
        go_simp
        try with_reducible rfl
      try simp only [List.getElem_toArray, List.getElem_cons_zero, List.getElem_cons_succ, Act.put, List.setIfInBounds_toArray, List.set_cons_zero, List.set_cons_succ]
      refine wpAnyH_take (i := 5) (v := ?_) rfl (by kernel_rfl) (by kernel_rfl) (by kernel_rfl) (fun _ _ _ h => h) (Or.inl ⟨by kernel_rfl, ?_⟩) (by assumption) ?_
      rotate_left
      · intro Wt hSt
        go_simp
        try with_reducible rfl
      try simp only [List.getElem_toArray, List.getElem_cons_zero, List.getElem_cons_succ, Act.put, List.setIfInBounds_toArray, List.set_cons_zero, List.set_cons_succ]
      refine wpAnyH_take (i := 6) (v := ?_) rfl (by kernel_rfl) (by kernel_rfl) (by kernel_rfl) (fun _ _ _ h => h) (Or.inl ⟨by kernel_rfl, ?_⟩) (by assumption) ?_
      rotate_left
      · intro Wt hSt
        have hct := (show Wt.cell? ⟨CB, 1, none⟩ = some vr from hSt.cell rfl)
        go_simp
        try with_reducible rfl
      try simp only [List.getElem_toArray, List.getElem_cons_zero, List.getElem_cons_succ, Act.put, List.setIfInBounds_toArray, List.set_cons_zero, List.set_cons_succ]
      refine wpAnyH_two 1 4 _ _ rfl rfl (by kernel_rfl) (by kernel_rfl) (by kernel_rfl) ?_ ?_
      · intro Kt hK
        have hc3 := (unhide HF).cell (j := 3) (v := .slice A k cc) rfl
        go_simp
        refine hK _ _ hS ?_
        clear hK Kt hc3
        try simp only [List.getElem_toArray, List.getElem_cons_zero, List.getElem_cons_succ, Act.put, List.setIfInBounds_toArray, List.set_cons_zero, List.set_cons_succ]
        refine wpAnyH_one 4 _ rfl (by kernel_rfl) (by kernel_rfl) ?_
        skip
        intro Kt hK
        go_simp
        refine (number_lit pl Wd).mono ?_; rintro e V1 ⟨rfl, hG⟩
        dsimp only
        have HF := hide ((unhide HF).keep hG); have HO := hide (own_below (unhide HO) hG); have HR := hide ((unhide HR).keep hG); have HB := hide (thenB (unhide HB) hG); have HEL := hide ((unhide HEL).below hG); have hS := hS.keep hG
        refine hK _ _ hS ?_
        clear hK Kt hG
        try simp only [List.getElem_toArray, List.getElem_cons_zero, List.getElem_cons_succ, Act.put, List.setIfInBounds_toArray, List.set_cons_zero, List.set_cons_succ]
        refine wpAnyH_one 7 _ rfl (by kernel_rfl) (by kernel_rfl) ?_
        skip
        intro Kt hK
        go_simp
        rw [unhide HVR]
        refine ((unhide HTC) V1).mono ?_; rintro e V2 ⟨rfl, hG⟩
        dsimp only
        rw [← unhide HVR]
        have HF := hide ((unhide HF).keep hG); have HO := hide (own_below (unhide HO) hG); have HR := hide ((unhide HR).keep hG); have HB := hide (thenB (unhide HB) hG); have HEL := hide ((unhide HEL).below hG); have hS := hS.keep hG
        refine hK _ _ hS ?_
        clear hK Kt hG
        try simp only [List.getElem_toArray, List.getElem_cons_zero, List.getElem_cons_succ, Act.put, List.setIfInBounds_toArray, List.set_cons_zero, List.set_cons_succ]
        refine wpAnyH_one 8 _ rfl (by kernel_rfl) (by kernel_rfl) ?_
        skip
        intro Kt hK
        go_simp
        generalize hXv : World.alloc _ _ = V3
        have hG : Below V2.heap.size V2 V3 := hXv ▸ (Below.refl _ _).alloc (Nat.le_refl _) _
        have HE1 := hide (boxedV V2 V3 (numL pl ++ numL tr) 66 (by rw [← hXv]; rfl))
        have HQ1 : Hid (w.heap.size < V2.heap.size ∧ N < V2.heap.size ∧ ∀ q, Value.ownBlock (.slice A k cc) = some q → q < V2.heap.size) := ⟨lt_of_block (unhide HR), lt_of_block (unhide HF), fun q e => ((unhide HO).lt q e).2⟩
        have HF := hide ((unhide HF).keep hG); have HO := hide (own_below (unhide HO) hG); have HR := hide ((unhide HR).keep hG); have HB := hide (thenB (unhide HB) hG); have HEL := hide ((unhide HEL).below hG); have hS := hS.keep hG
        refine hK _ _ hS ?_
        clear hK Kt hXv hG
        try simp only [List.getElem_toArray, List.getElem_cons_zero, List.getElem_cons_succ, Act.put, List.setIfInBounds_toArray, List.set_cons_zero, List.set_cons_succ]
        refine wpAnyH_take (i := 9) (v := ?_) rfl (by kernel_rfl) (by kernel_rfl) (by kernel_rfl) (fun _ _ _ h => h) (Or.inl ⟨by kernel_rfl, ?_⟩) (by assumption) ?_
        rotate_left
        · intro Wt hSt
          go_simp
          try with_reducible rfl
        try simp only [List.getElem_toArray, List.getElem_cons_zero, List.getElem_cons_succ, Act.put, List.setIfInBounds_toArray, List.set_cons_zero, List.set_cons_succ]
        refine wpAnyH_one 10 _ rfl (by kernel_rfl) (by kernel_rfl) ?_
        skip
        intro Kt hK
        go_simp
        generalize hXv : World.alloc _ _ = V4
        have hG : Below V3.heap.size V3 V4 := hXv ▸ (Below.refl _ _).alloc (Nat.le_refl _) _
        have HE2 := hide (boxedV V3 V4 (listL (.slice (some ⟨V2.heap.size, 0, none⟩) 2 2)) 66 (by rw [← hXv]; rfl))
        have HE1 := hide ((unhide HE1).keep hG)
        have HF := hide ((unhide HF).keep hG); have HO := hide (own_below (unhide HO) hG); have HR := hide ((unhide HR).keep hG); have HB := hide (thenB (unhide HB) hG); have HEL := hide ((unhide HEL).below hG); have hS := hS.keep hG
        refine hK _ _ hS ?_
        clear hK Kt hXv hG
        try simp only [List.getElem_toArray, List.getElem_cons_zero, List.getElem_cons_succ, Act.put, List.setIfInBounds_toArray, List.set_cons_zero, List.set_cons_succ]
        have hnew : VIn V4 (CP w.heap.size N (.slice A k cc) V4) (cardA ⟨pl, rd⟩) (.agg (listL (.slice (some ⟨V2.heap.size, 0, none⟩) 2 2)).toArray) := by
          have h := vin_pair (P := CP w.heap.size N (.slice A k cc) V4) (unhide HE1) ⟨(unhide HQ1).1, lt_of_block (unhide HE1), fun e => by have := (unhide HQ1).2.1; omega, fun e => by have := (unhide HQ1).2.2 _ e; omega⟩ (unhide HI6) (by rw [unhide HTR]; cases rd <;> exact ⟨by decide, by decide⟩)
          rw [unhide HTR] at h
          exact h
        obtain ⟨xn, hxn⟩ : ∃ xn : Raw, xn = ⟨listL (.slice (some ⟨V2.heap.size, 0, none⟩) 2 2), rfl, listL_one rfl⟩ := ⟨_, rfl⟩
        have hels2 := (unhide HEL).snoc (x := xn) (by rw [hxn]; exact hnew) (by rw [(unhide HK).2.2]; exact unhide HCD)
        refine wpAnyH_one 11 _ rfl (by kernel_rfl) (by kernel_rfl) ?_
        skip
        intro Kt hK
        obtain ⟨v', w1, hr, hown, hgr, hnil, hob⟩ := run_append_own_at (P := Tryz.prog) V4 (w.heap.size + 1) 63 63 66 i0 (.agg fzeroV.toArray) 5 80 Tryz.underlying63 hi hz0 hz1 hz2 rfl (by decide) (.slice A k cc) k xs (unhide HO) ⟨V3.heap.size, 0, none⟩ 1 1 (listL (.slice (some ⟨V2.heap.size, 0, none⟩) 2 2)) rfl (fun j u hj => by rw [addr_at]; exact (unhide HE2).cell hj) (listL_one rfl) (by unfold maxLen; have := unhide HN; have := unhide HK; omega) (by have := unhide HN; have := unhide HK; omega) (by have := lt_of_block (unhide HR); omega)
        obtain ⟨q, cap, rfl⟩ := ownsRow_succ hown
        refine wp_append (.tmp 17) (.tmp 26) 63 rfl (.slice A k cc) (.slice (some ⟨V3.heap.size, 0, none⟩) 1 1) _ w1 rfl rfl hr ?_
        have hqN : q ≠ N := fun e => by
          rcases hob with h | h
          · exact (unhide HVN) (h.symm.trans (by rw [e]; rfl))
          · have h : q = V4.heap.size := Option.some.inj h
            have := lt_of_block (unhide HF)
            omega
        have hX1 := (unhide HF).grown hgr (fun e => (unhide HVN) e)
        have hR1 := (unhide HR).grown hgr (fun e => by have := ((unhide HO).lt _ e).1; omega)
        have hB1 := (unhide HB).grown hgr (unhide HB).size (fun i e => by have := ((unhide HO).lt i e).1; omega)
        have hS1 : VsAt w1 CB 139 [.int .i64 pl, vr] := hS.grown hgr (fun e => (unhide HCO) e)
        refine hK _ _ hS1 ?_
        clear hK Kt hr
        try simp only [List.getElem_toArray, List.getElem_cons_zero, List.getElem_cons_succ, Act.put, List.setIfInBounds_toArray, List.set_cons_zero, List.set_cons_succ]
        refine wpAnyH_take (i := 12) (v := ?_) rfl (by kernel_rfl) (by kernel_rfl) (by kernel_rfl) (fun _ _ _ h => h) (Or.inl ⟨by kernel_rfl, ?_⟩) (by assumption) ?_
        rotate_left
        · intro Wt hSt
          go_simp
          try with_reducible rfl
        try simp only [List.getElem_toArray, List.getElem_cons_zero, List.getElem_cons_succ, Act.put, List.setIfInBounds_toArray, List.set_cons_zero, List.set_cons_succ]
        refine wpAnyH_one 13 _ rfl (by kernel_rfl) (by kernel_rfl) ?_
        skip
        intro Kt hK
        have hcX := hX1.cell (j := 3) (v := .slice A k cc) rfl
        have hfX := hX1.free 3
        go_simp
        have hg3 : w1.grownBy (w1.setCell ⟨N, 3, none⟩ (.slice (some ⟨q, 0, none⟩) (k + 1) cap)) (some N) := fgrownSetCells N [.slice (some ⟨q, 0, none⟩) (k + 1) cap] 3 w1
        have HX3 := hide (show VsAt (w1.setCell ⟨N, 3, none⟩ (.slice (some ⟨q, 0, none⟩) (k + 1) cap)) N 66 (listL (.slice (some ⟨q, 0, none⟩) (k + 1) cap)) from hX1.set 3 _)
        have HO3 := hide (hown.kept hg3 (.inr (fun e => hqN (Option.some.inj e))))
        have HR3 := hide (hR1.grown hg3 (fun e => by have := Option.some.inj e; have := unhide HNL; omega))
        have HB3 := hide (hB1.grown hg3 hB1.size (fun i e => by have := Option.some.inj e; have := unhide HNL; omega))
        have HEL3 := hide (hels2.step hgr hob hg3)
        have hS3 := hS1.grown hg3 (fun e => (unhide HCN) (Option.some.inj e).symm)
        refine hK _ _ hS3 ?_
        clear hK Kt hcX hfX
        generalize w1.setCell ⟨N, 3, none⟩ (.slice (some ⟨q, 0, none⟩) (k + 1) cap) = w2 at *
        try simp only [List.getElem_toArray, List.getElem_cons_zero, List.getElem_cons_succ, Act.put, List.setIfInBounds_toArray, List.set_cons_zero, List.set_cons_succ]
        refine wpAnyH_chainOf [] _ _ _ (by kernel_rfl) (by kernel_rfl) ?_
        refine wpChain_nil ?_
        have HQN := hide hqN
        have HRC := hide (show rawCells (ys ++ [xn]) = xs ++ listL (.slice (some ⟨V2.heap.size, 0, none⟩) 2 2) by rw [rawCells_snoc, unhide HXS, hxn])
        clear hg3 hB1 hR1 hX1 hqN hob hnil hgr hown hels2 hnew hxn hS3 hS1 hS
        go_wp2_with fail
        go_roundg g
        case measure => omega
        case rel => exact ⟨k + 1, _, ys ++ [xn], rfl, by have := unhide HK; omega, by have := unhide HK; simp; omega, unhide HX3, by rw [unhide HRC]; exact unhide HO3, fun e => (unhide HQN) (Option.some.inj e), unhide HR3, unhide HB3, unhide HEL3⟩
      · intro Kt hK
        go_simp
        refine (number_lit pl Wd).mono ?_; rintro e V5 ⟨rfl, hG⟩
        dsimp only
        have HF := hide ((unhide HF).keep hG); have HO := hide (own_below (unhide HO) hG); have HR := hide ((unhide HR).keep hG); have HB := hide (thenB (unhide HB) hG); have HEL := hide ((unhide HEL).below hG); have hS := hS.keep hG
        refine hK _ _ hS ?_
        clear hK Kt hG
        try simp only [List.getElem_toArray, List.getElem_cons_zero, List.getElem_cons_succ, Act.put, List.setIfInBounds_toArray, List.set_cons_zero, List.set_cons_succ]
        refine wpAnyH_two 1 7 _ _ rfl rfl (by kernel_rfl) (by kernel_rfl) (by kernel_rfl) ?_ ?_
        · intro Kt hK
          have hc3 := (unhide HF).cell (j := 3) (v := .slice A k cc) rfl
          go_simp
          refine hK _ _ hS ?_
          clear hK Kt hc3
          try simp only [List.getElem_toArray, List.getElem_cons_zero, List.getElem_cons_succ, Act.put, List.setIfInBounds_toArray, List.set_cons_zero, List.set_cons_succ]
          refine wpAnyH_one 7 _ rfl (by kernel_rfl) (by kernel_rfl) ?_
          skip
          intro Kt hK
          go_simp
          rw [unhide HVR]
          refine ((unhide HTC) V5).mono ?_; rintro e V6 ⟨rfl, hG⟩
          dsimp only
          rw [← unhide HVR]
          have HF := hide ((unhide HF).keep hG); have HO := hide (own_below (unhide HO) hG); have HR := hide ((unhide HR).keep hG); have HB := hide (thenB (unhide HB) hG); have HEL := hide ((unhide HEL).below hG); have hS := hS.keep hG
          refine hK _ _ hS ?_
          clear hK Kt hG
          try simp only [List.getElem_toArray, List.getElem_cons_zero, List.getElem_cons_succ, Act.put, List.setIfInBounds_toArray, List.set_cons_zero, List.set_cons_succ]
          refine wpAnyH_one 8 _ rfl (by kernel_rfl) (by kernel_rfl) ?_
          skip
          intro Kt hK
          go_simp
          generalize hXv : World.alloc _ _ = V7
          have hG : Below V6.heap.size V6 V7 := hXv ▸ (Below.refl _ _).alloc (Nat.le_refl _) _
          have HE1 := hide (boxedV V6 V7 (numL pl ++ numL tr) 66 (by rw [← hXv]; rfl))
          have HQ1 : Hid (w.heap.size < V6.heap.size ∧ N < V6.heap.size ∧ ∀ q, Value.ownBlock (.slice A k cc) = some q → q < V6.heap.size) := ⟨lt_of_block (unhide HR), lt_of_block (unhide HF), fun q e => ((unhide HO).lt q e).2⟩
          have HF := hide ((unhide HF).keep hG); have HO := hide (own_below (unhide HO) hG); have HR := hide ((unhide HR).keep hG); have HB := hide (thenB (unhide HB) hG); have HEL := hide ((unhide HEL).below hG); have hS := hS.keep hG
          refine hK _ _ hS ?_
          clear hK Kt hXv hG
          try simp only [List.getElem_toArray, List.getElem_cons_zero, List.getElem_cons_succ, Act.put, List.setIfInBounds_toArray, List.set_cons_zero, List.set_cons_succ]
          refine wpAnyH_take (i := 9) (v := ?_) rfl (by kernel_rfl) (by kernel_rfl) (by kernel_rfl) (fun _ _ _ h => h) (Or.inl ⟨by kernel_rfl, ?_⟩) (by assumption) ?_
          rotate_left
          · intro Wt hSt
            go_simp
            try with_reducible rfl
          try simp only [List.getElem_toArray, List.getElem_cons_zero, List.getElem_cons_succ, Act.put, List.setIfInBounds_toArray, List.set_cons_zero, List.set_cons_succ]
          refine wpAnyH_one 10 _ rfl (by kernel_rfl) (by kernel_rfl) ?_
          skip
          intro Kt hK
          go_simp
          generalize hXv : World.alloc _ _ = V8
          have hG : Below V7.heap.size V7 V8 := hXv ▸ (Below.refl _ _).alloc (Nat.le_refl _) _
          have HE2 := hide (boxedV V7 V8 (listL (.slice (some ⟨V6.heap.size, 0, none⟩) 2 2)) 66 (by rw [← hXv]; rfl))
          have HE1 := hide ((unhide HE1).keep hG)
          have HF := hide ((unhide HF).keep hG); have HO := hide (own_below (unhide HO) hG); have HR := hide ((unhide HR).keep hG); have HB := hide (thenB (unhide HB) hG); have HEL := hide ((unhide HEL).below hG); have hS := hS.keep hG
          refine hK _ _ hS ?_
          clear hK Kt hXv hG
          try simp only [List.getElem_toArray, List.getElem_cons_zero, List.getElem_cons_succ, Act.put, List.setIfInBounds_toArray, List.set_cons_zero, List.set_cons_succ]
          have hnew : VIn V8 (CP w.heap.size N (.slice A k cc) V8) (cardA ⟨pl, rd⟩) (.agg (listL (.slice (some ⟨V6.heap.size, 0, none⟩) 2 2)).toArray) := by
            have h := vin_pair (P := CP w.heap.size N (.slice A k cc) V8) (unhide HE1) ⟨(unhide HQ1).1, lt_of_block (unhide HE1), fun e => by have := (unhide HQ1).2.1; omega, fun e => by have := (unhide HQ1).2.2 _ e; omega⟩ (unhide HI6) (by rw [unhide HTR]; cases rd <;> exact ⟨by decide, by decide⟩)
            rw [unhide HTR] at h
            exact h
          obtain ⟨xn, hxn⟩ : ∃ xn : Raw, xn = ⟨listL (.slice (some ⟨V6.heap.size, 0, none⟩) 2 2), rfl, listL_one rfl⟩ := ⟨_, rfl⟩
          have hels2 := (unhide HEL).snoc (x := xn) (by rw [hxn]; exact hnew) (by rw [(unhide HK).2.2]; exact unhide HCD)
          refine wpAnyH_one 11 _ rfl (by kernel_rfl) (by kernel_rfl) ?_
          skip
          intro Kt hK
          obtain ⟨v', w1, hr, hown, hgr, hnil, hob⟩ := run_append_own_at (P := Tryz.prog) V8 (w.heap.size + 1) 63 63 66 i0 (.agg fzeroV.toArray) 5 80 Tryz.underlying63 hi hz0 hz1 hz2 rfl (by decide) (.slice A k cc) k xs (unhide HO) ⟨V7.heap.size, 0, none⟩ 1 1 (listL (.slice (some ⟨V6.heap.size, 0, none⟩) 2 2)) rfl (fun j u hj => by rw [addr_at]; exact (unhide HE2).cell hj) (listL_one rfl) (by unfold maxLen; have := unhide HN; have := unhide HK; omega) (by have := unhide HN; have := unhide HK; omega) (by have := lt_of_block (unhide HR); omega)
          obtain ⟨q, cap, rfl⟩ := ownsRow_succ hown
          refine wp_append (.tmp 17) (.tmp 26) 63 rfl (.slice A k cc) (.slice (some ⟨V7.heap.size, 0, none⟩) 1 1) _ w1 rfl rfl hr ?_
          have hqN : q ≠ N := fun e => by
            rcases hob with h | h
            · exact (unhide HVN) (h.symm.trans (by rw [e]; rfl))
            · have h : q = V8.heap.size := Option.some.inj h
              have := lt_of_block (unhide HF)
              omega
          have hX1 := (unhide HF).grown hgr (fun e => (unhide HVN) e)
          have hR1 := (unhide HR).grown hgr (fun e => by have := ((unhide HO).lt _ e).1; omega)
          have hB1 := (unhide HB).grown hgr (unhide HB).size (fun i e => by have := ((unhide HO).lt i e).1; omega)
          have hS1 : VsAt w1 CB 139 [.int .i64 pl, vr] := hS.grown hgr (fun e => (unhide HCO) e)
          refine hK _ _ hS1 ?_
          clear hK Kt hr
          try simp only [List.getElem_toArray, List.getElem_cons_zero, List.getElem_cons_succ, Act.put, List.setIfInBounds_toArray, List.set_cons_zero, List.set_cons_succ]
          refine wpAnyH_take (i := 12) (v := ?_) rfl (by kernel_rfl) (by kernel_rfl) (by kernel_rfl) (fun _ _ _ h => h) (Or.inl ⟨by kernel_rfl, ?_⟩) (by assumption) ?_
          rotate_left
          · intro Wt hSt
            go_simp
            try with_reducible rfl
          try simp only [List.getElem_toArray, List.getElem_cons_zero, List.getElem_cons_succ, Act.put, List.setIfInBounds_toArray, List.set_cons_zero, List.set_cons_succ]
          refine wpAnyH_one 13 _ rfl (by kernel_rfl) (by kernel_rfl) ?_
          skip
          intro Kt hK
          have hcX := hX1.cell (j := 3) (v := .slice A k cc) rfl
          have hfX := hX1.free 3
          go_simp
          have hg3 : w1.grownBy (w1.setCell ⟨N, 3, none⟩ (.slice (some ⟨q, 0, none⟩) (k + 1) cap)) (some N) := fgrownSetCells N [.slice (some ⟨q, 0, none⟩) (k + 1) cap] 3 w1
          have HX3 := hide (show VsAt (w1.setCell ⟨N, 3, none⟩ (.slice (some ⟨q, 0, none⟩) (k + 1) cap)) N 66 (listL (.slice (some ⟨q, 0, none⟩) (k + 1) cap)) from hX1.set 3 _)
          have HO3 := hide (hown.kept hg3 (.inr (fun e => hqN (Option.some.inj e))))
          have HR3 := hide (hR1.grown hg3 (fun e => by have := Option.some.inj e; have := unhide HNL; omega))
          have HB3 := hide (hB1.grown hg3 hB1.size (fun i e => by have := Option.some.inj e; have := unhide HNL; omega))
          have HEL3 := hide (hels2.step hgr hob hg3)
          have hS3 := hS1.grown hg3 (fun e => (unhide HCN) (Option.some.inj e).symm)
          refine hK _ _ hS3 ?_
          clear hK Kt hcX hfX
          generalize w1.setCell ⟨N, 3, none⟩ (.slice (some ⟨q, 0, none⟩) (k + 1) cap) = w2 at *
          try simp only [List.getElem_toArray, List.getElem_cons_zero, List.getElem_cons_succ, Act.put, List.setIfInBounds_toArray, List.set_cons_zero, List.set_cons_succ]
          refine wpAnyH_chainOf [] _ _ _ (by kernel_rfl) (by kernel_rfl) ?_
          refine wpChain_nil ?_
          have HQN := hide hqN
          have HRC := hide (show rawCells (ys ++ [xn]) = xs ++ listL (.slice (some ⟨V6.heap.size, 0, none⟩) 2 2) by rw [rawCells_snoc, unhide HXS, hxn])
          clear hg3 hB1 hR1 hX1 hqN hob hnil hgr hown hels2 hnew hxn hS3 hS1 hS
          go_wp2_with fail
          go_roundg g
          case measure => omega
          case rel => exact ⟨k + 1, _, ys ++ [xn], rfl, by have := unhide HK; omega, by have := unhide HK; simp; omega, unhide HX3, by rw [unhide HRC]; exact unhide HO3, fun e => (unhide HQN) (Option.some.inj e), unhide HR3, unhide HB3, unhide HEL3⟩
        · intro Kt hK
          go_simp
          rw [unhide HVR]
          refine ((unhide HTC) V5).mono ?_; rintro e V9 ⟨rfl, hG⟩
          dsimp only
          rw [← unhide HVR]
          have HF := hide ((unhide HF).keep hG); have HO := hide (own_below (unhide HO) hG); have HR := hide ((unhide HR).keep hG); have HB := hide (thenB (unhide HB) hG); have HEL := hide ((unhide HEL).below hG); have hS := hS.keep hG
          refine hK _ _ hS ?_
          clear hK Kt hG
          try simp only [List.getElem_toArray, List.getElem_cons_zero, List.getElem_cons_succ, Act.put, List.setIfInBounds_toArray, List.set_cons_zero, List.set_cons_succ]
          refine wpAnyH_two 1 8 _ _ rfl rfl (by kernel_rfl) (by kernel_rfl) (by kernel_rfl) ?_ ?_
          · intro Kt hK
            have hc3 := (unhide HF).cell (j := 3) (v := .slice A k cc) rfl
            go_simp
            refine hK _ _ hS ?_
            clear hK Kt hc3
            try simp only [List.getElem_toArray, List.getElem_cons_zero, List.getElem_cons_succ, Act.put, List.setIfInBounds_toArray, List.set_cons_zero, List.set_cons_succ]
            refine wpAnyH_one 8 _ rfl (by kernel_rfl) (by kernel_rfl) ?_
            skip
            intro Kt hK
            go_simp
            generalize hXv : World.alloc _ _ = V10
            have hG : Below V9.heap.size V9 V10 := hXv ▸ (Below.refl _ _).alloc (Nat.le_refl _) _
            have HE1 := hide (boxedV V9 V10 (numL pl ++ numL tr) 66 (by rw [← hXv]; rfl))
            have HQ1 : Hid (w.heap.size < V9.heap.size ∧ N < V9.heap.size ∧ ∀ q, Value.ownBlock (.slice A k cc) = some q → q < V9.heap.size) := ⟨lt_of_block (unhide HR), lt_of_block (unhide HF), fun q e => ((unhide HO).lt q e).2⟩
            have HF := hide ((unhide HF).keep hG); have HO := hide (own_below (unhide HO) hG); have HR := hide ((unhide HR).keep hG); have HB := hide (thenB (unhide HB) hG); have HEL := hide ((unhide HEL).below hG); have hS := hS.keep hG
            refine hK _ _ hS ?_
            clear hK Kt hXv hG
            try simp only [List.getElem_toArray, List.getElem_cons_zero, List.getElem_cons_succ, Act.put, List.setIfInBounds_toArray, List.set_cons_zero, List.set_cons_succ]
            refine wpAnyH_take (i := 9) (v := ?_) rfl (by kernel_rfl) (by kernel_rfl) (by kernel_rfl) (fun _ _ _ h => h) (Or.inl ⟨by kernel_rfl, ?_⟩) (by assumption) ?_
            rotate_left
            · intro Wt hSt
              go_simp
              try with_reducible rfl
            try simp only [List.getElem_toArray, List.getElem_cons_zero, List.getElem_cons_succ, Act.put, List.setIfInBounds_toArray, List.set_cons_zero, List.set_cons_succ]
            refine wpAnyH_one 10 _ rfl (by kernel_rfl) (by kernel_rfl) ?_
            skip
            intro Kt hK
            go_simp
            generalize hXv : World.alloc _ _ = V11
            have hG : Below V10.heap.size V10 V11 := hXv ▸ (Below.refl _ _).alloc (Nat.le_refl _) _
            have HE2 := hide (boxedV V10 V11 (listL (.slice (some ⟨V9.heap.size, 0, none⟩) 2 2)) 66 (by rw [← hXv]; rfl))
            have HE1 := hide ((unhide HE1).keep hG)
            have HF := hide ((unhide HF).keep hG); have HO := hide (own_below (unhide HO) hG); have HR := hide ((unhide HR).keep hG); have HB := hide (thenB (unhide HB) hG); have HEL := hide ((unhide HEL).below hG); have hS := hS.keep hG
            refine hK _ _ hS ?_
            clear hK Kt hXv hG
            try simp only [List.getElem_toArray, List.getElem_cons_zero, List.getElem_cons_succ, Act.put, List.setIfInBounds_toArray, List.set_cons_zero, List.set_cons_succ]
            have hnew : VIn V11 (CP w.heap.size N (.slice A k cc) V11) (cardA ⟨pl, rd⟩) (.agg (listL (.slice (some ⟨V9.heap.size, 0, none⟩) 2 2)).toArray) := by
              have h := vin_pair (P := CP w.heap.size N (.slice A k cc) V11) (unhide HE1) ⟨(unhide HQ1).1, lt_of_block (unhide HE1), fun e => by have := (unhide HQ1).2.1; omega, fun e => by have := (unhide HQ1).2.2 _ e; omega⟩ (unhide HI6) (by rw [unhide HTR]; cases rd <;> exact ⟨by decide, by decide⟩)
              rw [unhide HTR] at h
              exact h
            obtain ⟨xn, hxn⟩ : ∃ xn : Raw, xn = ⟨listL (.slice (some ⟨V9.heap.size, 0, none⟩) 2 2), rfl, listL_one rfl⟩ := ⟨_, rfl⟩
            have hels2 := (unhide HEL).snoc (x := xn) (by rw [hxn]; exact hnew) (by rw [(unhide HK).2.2]; exact unhide HCD)
            refine wpAnyH_one 11 _ rfl (by kernel_rfl) (by kernel_rfl) ?_
            skip
            intro Kt hK
            obtain ⟨v', w1, hr, hown, hgr, hnil, hob⟩ := run_append_own_at (P := Tryz.prog) V11 (w.heap.size + 1) 63 63 66 i0 (.agg fzeroV.toArray) 5 80 Tryz.underlying63 hi hz0 hz1 hz2 rfl (by decide) (.slice A k cc) k xs (unhide HO) ⟨V10.heap.size, 0, none⟩ 1 1 (listL (.slice (some ⟨V9.heap.size, 0, none⟩) 2 2)) rfl (fun j u hj => by rw [addr_at]; exact (unhide HE2).cell hj) (listL_one rfl) (by unfold maxLen; have := unhide HN; have := unhide HK; omega) (by have := unhide HN; have := unhide HK; omega) (by have := lt_of_block (unhide HR); omega)
            obtain ⟨q, cap, rfl⟩ := ownsRow_succ hown
            refine wp_append (.tmp 17) (.tmp 26) 63 rfl (.slice A k cc) (.slice (some ⟨V10.heap.size, 0, none⟩) 1 1) _ w1 rfl rfl hr ?_
            have hqN : q ≠ N := fun e => by
              rcases hob with h | h
              · exact (unhide HVN) (h.symm.trans (by rw [e]; rfl))
              · have h : q = V11.heap.size := Option.some.inj h
                have := lt_of_block (unhide HF)
                omega
            have hX1 := (unhide HF).grown hgr (fun e => (unhide HVN) e)
            have hR1 := (unhide HR).grown hgr (fun e => by have := ((unhide HO).lt _ e).1; omega)
            have hB1 := (unhide HB).grown hgr (unhide HB).size (fun i e => by have := ((unhide HO).lt i e).1; omega)
            have hS1 : VsAt w1 CB 139 [.int .i64 pl, vr] := hS.grown hgr (fun e => (unhide HCO) e)
            refine hK _ _ hS1 ?_
            clear hK Kt hr
            try simp only [List.getElem_toArray, List.getElem_cons_zero, List.getElem_cons_succ, Act.put, List.setIfInBounds_toArray, List.set_cons_zero, List.set_cons_succ]
            refine wpAnyH_take (i := 12) (v := ?_) rfl (by kernel_rfl) (by kernel_rfl) (by kernel_rfl) (fun _ _ _ h => h) (Or.inl ⟨by kernel_rfl, ?_⟩) (by assumption) ?_
            rotate_left
            · intro Wt hSt
              go_simp
              try with_reducible rfl
            try simp only [List.getElem_toArray, List.getElem_cons_zero, List.getElem_cons_succ, Act.put, List.setIfInBounds_toArray, List.set_cons_zero, List.set_cons_succ]
            refine wpAnyH_one 13 _ rfl (by kernel_rfl) (by kernel_rfl) ?_
            skip
            intro Kt hK
            have hcX := hX1.cell (j := 3) (v := .slice A k cc) rfl
            have hfX := hX1.free 3
            go_simp
            have hg3 : w1.grownBy (w1.setCell ⟨N, 3, none⟩ (.slice (some ⟨q, 0, none⟩) (k + 1) cap)) (some N) := fgrownSetCells N [.slice (some ⟨q, 0, none⟩) (k + 1) cap] 3 w1
            have HX3 := hide (show VsAt (w1.setCell ⟨N, 3, none⟩ (.slice (some ⟨q, 0, none⟩) (k + 1) cap)) N 66 (listL (.slice (some ⟨q, 0, none⟩) (k + 1) cap)) from hX1.set 3 _)
            have HO3 := hide (hown.kept hg3 (.inr (fun e => hqN (Option.some.inj e))))
            have HR3 := hide (hR1.grown hg3 (fun e => by have := Option.some.inj e; have := unhide HNL; omega))
            have HB3 := hide (hB1.grown hg3 hB1.size (fun i e => by have := Option.some.inj e; have := unhide HNL; omega))
            have HEL3 := hide (hels2.step hgr hob hg3)
            have hS3 := hS1.grown hg3 (fun e => (unhide HCN) (Option.some.inj e).symm)
            refine hK _ _ hS3 ?_
            clear hK Kt hcX hfX
            generalize w1.setCell ⟨N, 3, none⟩ (.slice (some ⟨q, 0, none⟩) (k + 1) cap) = w2 at *
            try simp only [List.getElem_toArray, List.getElem_cons_zero, List.getElem_cons_succ, Act.put, List.setIfInBounds_toArray, List.set_cons_zero, List.set_cons_succ]
            refine wpAnyH_chainOf [] _ _ _ (by kernel_rfl) (by kernel_rfl) ?_
            refine wpChain_nil ?_
            have HQN := hide hqN
            have HRC := hide (show rawCells (ys ++ [xn]) = xs ++ listL (.slice (some ⟨V9.heap.size, 0, none⟩) 2 2) by rw [rawCells_snoc, unhide HXS, hxn])
            clear hg3 hB1 hR1 hX1 hqN hob hnil hgr hown hels2 hnew hxn hS3 hS1 hS
            go_wp2_with fail
            go_roundg g
            case measure => omega
            case rel => exact ⟨k + 1, _, ys ++ [xn], rfl, by have := unhide HK; omega, by have := unhide HK; simp; omega, unhide HX3, by rw [unhide HRC]; exact unhide HO3, fun e => (unhide HQN) (Option.some.inj e), unhide HR3, unhide HB3, unhide HEL3⟩
          · intro Kt hK
            go_simp
            generalize hXv : World.alloc _ _ = V12
            have hG : Below V9.heap.size V9 V12 := hXv ▸ (Below.refl _ _).alloc (Nat.le_refl _) _
            have HE1 := hide (boxedV V9 V12 (numL pl ++ numL tr) 66 (by rw [← hXv]; rfl))
            have HQ1 : Hid (w.heap.size < V9.heap.size ∧ N < V9.heap.size ∧ ∀ q, Value.ownBlock (.slice A k cc) = some q → q < V9.heap.size) := ⟨lt_of_block (unhide HR), lt_of_block (unhide HF), fun q e => ((unhide HO).lt q e).2⟩
            have HF := hide ((unhide HF).keep hG); have HO := hide (own_below (unhide HO) hG); have HR := hide ((unhide HR).keep hG); have HB := hide (thenB (unhide HB) hG); have HEL := hide ((unhide HEL).below hG); have hS := hS.keep hG
            refine hK _ _ hS ?_
            clear hK Kt hXv hG
            try simp only [List.getElem_toArray, List.getElem_cons_zero, List.getElem_cons_succ, Act.put, List.setIfInBounds_toArray, List.set_cons_zero, List.set_cons_succ]
            refine wpAnyH_take (i := 9) (v := ?_) rfl (by kernel_rfl) (by kernel_rfl) (by kernel_rfl) (fun _ _ _ h => h) (Or.inl ⟨by kernel_rfl, ?_⟩) (by assumption) ?_
            rotate_left
            · intro Wt hSt
              go_simp
              try with_reducible rfl
            try simp only [List.getElem_toArray, List.getElem_cons_zero, List.getElem_cons_succ, Act.put, List.setIfInBounds_toArray, List.set_cons_zero, List.set_cons_succ]
            refine wpAnyH_two 1 10 _ _ rfl rfl (by kernel_rfl) (by kernel_rfl) (by kernel_rfl) ?_ ?_
            · intro Kt hK
              have hc3 := (unhide HF).cell (j := 3) (v := .slice A k cc) rfl
              go_simp
              refine hK _ _ hS ?_
              clear hK Kt hc3
              try simp only [List.getElem_toArray, List.getElem_cons_zero, List.getElem_cons_succ, Act.put, List.setIfInBounds_toArray, List.set_cons_zero, List.set_cons_succ]
              refine wpAnyH_one 10 _ rfl (by kernel_rfl) (by kernel_rfl) ?_
              skip
              intro Kt hK
              go_simp
              generalize hXv : World.alloc _ _ = V13
              have hG : Below V12.heap.size V12 V13 := hXv ▸ (Below.refl _ _).alloc (Nat.le_refl _) _
              have HE2 := hide (boxedV V12 V13 (listL (.slice (some ⟨V9.heap.size, 0, none⟩) 2 2)) 66 (by rw [← hXv]; rfl))
              have HE1 := hide ((unhide HE1).keep hG)
              have HF := hide ((unhide HF).keep hG); have HO := hide (own_below (unhide HO) hG); have HR := hide ((unhide HR).keep hG); have HB := hide (thenB (unhide HB) hG); have HEL := hide ((unhide HEL).below hG); have hS := hS.keep hG
              refine hK _ _ hS ?_
              clear hK Kt hXv hG
              try simp only [List.getElem_toArray, List.getElem_cons_zero, List.getElem_cons_succ, Act.put, List.setIfInBounds_toArray, List.set_cons_zero, List.set_cons_succ]
              have hnew : VIn V13 (CP w.heap.size N (.slice A k cc) V13) (cardA ⟨pl, rd⟩) (.agg (listL (.slice (some ⟨V9.heap.size, 0, none⟩) 2 2)).toArray) := by
                have h := vin_pair (P := CP w.heap.size N (.slice A k cc) V13) (unhide HE1) ⟨(unhide HQ1).1, lt_of_block (unhide HE1), fun e => by have := (unhide HQ1).2.1; omega, fun e => by have := (unhide HQ1).2.2 _ e; omega⟩ (unhide HI6) (by rw [unhide HTR]; cases rd <;> exact ⟨by decide, by decide⟩)
                rw [unhide HTR] at h
                exact h
              obtain ⟨xn, hxn⟩ : ∃ xn : Raw, xn = ⟨listL (.slice (some ⟨V9.heap.size, 0, none⟩) 2 2), rfl, listL_one rfl⟩ := ⟨_, rfl⟩
              have hels2 := (unhide HEL).snoc (x := xn) (by rw [hxn]; exact hnew) (by rw [(unhide HK).2.2]; exact unhide HCD)
              refine wpAnyH_one 11 _ rfl (by kernel_rfl) (by kernel_rfl) ?_
              skip
              intro Kt hK
              obtain ⟨v', w1, hr, hown, hgr, hnil, hob⟩ := run_append_own_at (P := Tryz.prog) V13 (w.heap.size + 1) 63 63 66 i0 (.agg fzeroV.toArray) 5 80 Tryz.underlying63 hi hz0 hz1 hz2 rfl (by decide) (.slice A k cc) k xs (unhide HO) ⟨V12.heap.size, 0, none⟩ 1 1 (listL (.slice (some ⟨V9.heap.size, 0, none⟩) 2 2)) rfl (fun j u hj => by rw [addr_at]; exact (unhide HE2).cell hj) (listL_one rfl) (by unfold maxLen; have := unhide HN; have := unhide HK; omega) (by have := unhide HN; have := unhide HK; omega) (by have := lt_of_block (unhide HR); omega)
              obtain ⟨q, cap, rfl⟩ := ownsRow_succ hown
              refine wp_append (.tmp 17) (.tmp 26) 63 rfl (.slice A k cc) (.slice (some ⟨V12.heap.size, 0, none⟩) 1 1) _ w1 rfl rfl hr ?_
              have hqN : q ≠ N := fun e => by
                rcases hob with h | h
                · exact (unhide HVN) (h.symm.trans (by rw [e]; rfl))
                · have h : q = V13.heap.size := Option.some.inj h
                  have := lt_of_block (unhide HF)
                  omega
              have hX1 := (unhide HF).grown hgr (fun e => (unhide HVN) e)
              have hR1 := (unhide HR).grown hgr (fun e => by have := ((unhide HO).lt _ e).1; omega)
              have hB1 := (unhide HB).grown hgr (unhide HB).size (fun i e => by have := ((unhide HO).lt i e).1; omega)
              have hS1 : VsAt w1 CB 139 [.int .i64 pl, vr] := hS.grown hgr (fun e => (unhide HCO) e)
              refine hK _ _ hS1 ?_
              clear hK Kt hr
              try simp only [List.getElem_toArray, List.getElem_cons_zero, List.getElem_cons_succ, Act.put, List.setIfInBounds_toArray, List.set_cons_zero, List.set_cons_succ]
              refine wpAnyH_take (i := 12) (v := ?_) rfl (by kernel_rfl) (by kernel_rfl) (by kernel_rfl) (fun _ _ _ h => h) (Or.inl ⟨by kernel_rfl, ?_⟩) (by assumption) ?_
              rotate_left
              · intro Wt hSt
                go_simp
                try with_reducible rfl
              try simp only [List.getElem_toArray, List.getElem_cons_zero, List.getElem_cons_succ, Act.put, List.setIfInBounds_toArray, List.set_cons_zero, List.set_cons_succ]
              refine wpAnyH_one 13 _ rfl (by kernel_rfl) (by kernel_rfl) ?_
              skip
              intro Kt hK
              have hcX := hX1.cell (j := 3) (v := .slice A k cc) rfl
              have hfX := hX1.free 3
              go_simp
              have hg3 : w1.grownBy (w1.setCell ⟨N, 3, none⟩ (.slice (some ⟨q, 0, none⟩) (k + 1) cap)) (some N) := fgrownSetCells N [.slice (some ⟨q, 0, none⟩) (k + 1) cap] 3 w1
              have HX3 := hide (show VsAt (w1.setCell ⟨N, 3, none⟩ (.slice (some ⟨q, 0, none⟩) (k + 1) cap)) N 66 (listL (.slice (some ⟨q, 0, none⟩) (k + 1) cap)) from hX1.set 3 _)
              have HO3 := hide (hown.kept hg3 (.inr (fun e => hqN (Option.some.inj e))))
              have HR3 := hide (hR1.grown hg3 (fun e => by have := Option.some.inj e; have := unhide HNL; omega))
              have HB3 := hide (hB1.grown hg3 hB1.size (fun i e => by have := Option.some.inj e; have := unhide HNL; omega))
              have HEL3 := hide (hels2.step hgr hob hg3)
              have hS3 := hS1.grown hg3 (fun e => (unhide HCN) (Option.some.inj e).symm)
              refine hK _ _ hS3 ?_
              clear hK Kt hcX hfX
              generalize w1.setCell ⟨N, 3, none⟩ (.slice (some ⟨q, 0, none⟩) (k + 1) cap) = w2 at *
              try simp only [List.getElem_toArray, List.getElem_cons_zero, List.getElem_cons_succ, Act.put, List.setIfInBounds_toArray, List.set_cons_zero, List.set_cons_succ]
              refine wpAnyH_chainOf [] _ _ _ (by kernel_rfl) (by kernel_rfl) ?_
              refine wpChain_nil ?_
              have HQN := hide hqN
              have HRC := hide (show rawCells (ys ++ [xn]) = xs ++ listL (.slice (some ⟨V9.heap.size, 0, none⟩) 2 2) by rw [rawCells_snoc, unhide HXS, hxn])
              clear hg3 hB1 hR1 hX1 hqN hob hnil hgr hown hels2 hnew hxn hS3 hS1 hS
              go_wp2_with fail
              go_roundg g
              case measure => omega
              case rel => exact ⟨k + 1, _, ys ++ [xn], rfl, by have := unhide HK; omega, by have := unhide HK; simp; omega, unhide HX3, by rw [unhide HRC]; exact unhide HO3, fun e => (unhide HQN) (Option.some.inj e), unhide HR3, unhide HB3, unhide HEL3⟩
            · intro Kt hK
              go_simp
              generalize hXv : World.alloc _ _ = V14
              have hG : Below V12.heap.size V12 V14 := hXv ▸ (Below.refl _ _).alloc (Nat.le_refl _) _
              have HE2 := hide (boxedV V12 V14 (listL (.slice (some ⟨V9.heap.size, 0, none⟩) 2 2)) 66 (by rw [← hXv]; rfl))
              have HE1 := hide ((unhide HE1).keep hG)
              have HF := hide ((unhide HF).keep hG); have HO := hide (own_below (unhide HO) hG); have HR := hide ((unhide HR).keep hG); have HB := hide (thenB (unhide HB) hG); have HEL := hide ((unhide HEL).below hG); have hS := hS.keep hG
              refine hK _ _ hS ?_
              clear hK Kt hXv hG
              try simp only [List.getElem_toArray, List.getElem_cons_zero, List.getElem_cons_succ, Act.put, List.setIfInBounds_toArray, List.set_cons_zero, List.set_cons_succ]
              refine wpAnyH_one 1 _ rfl (by kernel_rfl) (by kernel_rfl) ?_
              skip
              intro Kt hK
              have hc3 := (unhide HF).cell (j := 3) (v := .slice A k cc) rfl
              go_simp
              refine hK _ _ hS ?_
              clear hK Kt hc3
              try simp only [List.getElem_toArray, List.getElem_cons_zero, List.getElem_cons_succ, Act.put, List.setIfInBounds_toArray, List.set_cons_zero, List.set_cons_succ]
              have hnew : VIn V14 (CP w.heap.size N (.slice A k cc) V14) (cardA ⟨pl, rd⟩) (.agg (listL (.slice (some ⟨V9.heap.size, 0, none⟩) 2 2)).toArray) := by
                have h := vin_pair (P := CP w.heap.size N (.slice A k cc) V14) (unhide HE1) ⟨(unhide HQ1).1, lt_of_block (unhide HE1), fun e => by have := (unhide HQ1).2.1; omega, fun e => by have := (unhide HQ1).2.2 _ e; omega⟩ (unhide HI6) (by rw [unhide HTR]; cases rd <;> exact ⟨by decide, by decide⟩)
                rw [unhide HTR] at h
                exact h
              obtain ⟨xn, hxn⟩ : ∃ xn : Raw, xn = ⟨listL (.slice (some ⟨V9.heap.size, 0, none⟩) 2 2), rfl, listL_one rfl⟩ := ⟨_, rfl⟩
              have hels2 := (unhide HEL).snoc (x := xn) (by rw [hxn]; exact hnew) (by rw [(unhide HK).2.2]; exact unhide HCD)
              refine wpAnyH_one 11 _ rfl (by kernel_rfl) (by kernel_rfl) ?_
              skip
              intro Kt hK
              obtain ⟨v', w1, hr, hown, hgr, hnil, hob⟩ := run_append_own_at (P := Tryz.prog) V14 (w.heap.size + 1) 63 63 66 i0 (.agg fzeroV.toArray) 5 80 Tryz.underlying63 hi hz0 hz1 hz2 rfl (by decide) (.slice A k cc) k xs (unhide HO) ⟨V12.heap.size, 0, none⟩ 1 1 (listL (.slice (some ⟨V9.heap.size, 0, none⟩) 2 2)) rfl (fun j u hj => by rw [addr_at]; exact (unhide HE2).cell hj) (listL_one rfl) (by unfold maxLen; have := unhide HN; have := unhide HK; omega) (by have := unhide HN; have := unhide HK; omega) (by have := lt_of_block (unhide HR); omega)
              obtain ⟨q, cap, rfl⟩ := ownsRow_succ hown
              refine wp_append (.tmp 17) (.tmp 26) 63 rfl (.slice A k cc) (.slice (some ⟨V12.heap.size, 0, none⟩) 1 1) _ w1 rfl rfl hr ?_
              have hqN : q ≠ N := fun e => by
                rcases hob with h | h
                · exact (unhide HVN) (h.symm.trans (by rw [e]; rfl))
                · have h : q = V14.heap.size := Option.some.inj h
                  have := lt_of_block (unhide HF)
                  omega
              have hX1 := (unhide HF).grown hgr (fun e => (unhide HVN) e)
              have hR1 := (unhide HR).grown hgr (fun e => by have := ((unhide HO).lt _ e).1; omega)
              have hB1 := (unhide HB).grown hgr (unhide HB).size (fun i e => by have := ((unhide HO).lt i e).1; omega)
              have hS1 : VsAt w1 CB 139 [.int .i64 pl, vr] := hS.grown hgr (fun e => (unhide HCO) e)
              refine hK _ _ hS1 ?_
              clear hK Kt hr
              try simp only [List.getElem_toArray, List.getElem_cons_zero, List.getElem_cons_succ, Act.put, List.setIfInBounds_toArray, List.set_cons_zero, List.set_cons_succ]
              refine wpAnyH_take (i := 12) (v := ?_) rfl (by kernel_rfl) (by kernel_rfl) (by kernel_rfl) (fun _ _ _ h => h) (Or.inl ⟨by kernel_rfl, ?_⟩) (by assumption) ?_
              rotate_left
              · intro Wt hSt
                go_simp
                try with_reducible rfl
              try simp only [List.getElem_toArray, List.getElem_cons_zero, List.getElem_cons_succ, Act.put, List.setIfInBounds_toArray, List.set_cons_zero, List.set_cons_succ]
              refine wpAnyH_one 13 _ rfl (by kernel_rfl) (by kernel_rfl) ?_
              skip
              intro Kt hK
              have hcX := hX1.cell (j := 3) (v := .slice A k cc) rfl
              have hfX := hX1.free 3
              go_simp
              have hg3 : w1.grownBy (w1.setCell ⟨N, 3, none⟩ (.slice (some ⟨q, 0, none⟩) (k + 1) cap)) (some N) := fgrownSetCells N [.slice (some ⟨q, 0, none⟩) (k + 1) cap] 3 w1
              have HX3 := hide (show VsAt (w1.setCell ⟨N, 3, none⟩ (.slice (some ⟨q, 0, none⟩) (k + 1) cap)) N 66 (listL (.slice (some ⟨q, 0, none⟩) (k + 1) cap)) from hX1.set 3 _)
              have HO3 := hide (hown.kept hg3 (.inr (fun e => hqN (Option.some.inj e))))
              have HR3 := hide (hR1.grown hg3 (fun e => by have := Option.some.inj e; have := unhide HNL; omega))
              have HB3 := hide (hB1.grown hg3 hB1.size (fun i e => by have := Option.some.inj e; have := unhide HNL; omega))
              have HEL3 := hide (hels2.step hgr hob hg3)
              have hS3 := hS1.grown hg3 (fun e => (unhide HCN) (Option.some.inj e).symm)
              refine hK _ _ hS3 ?_
              clear hK Kt hcX hfX
              generalize w1.setCell ⟨N, 3, none⟩ (.slice (some ⟨q, 0, none⟩) (k + 1) cap) = w2 at *
              try simp only [List.getElem_toArray, List.getElem_cons_zero, List.getElem_cons_succ, Act.put, List.setIfInBounds_toArray, List.set_cons_zero, List.set_cons_succ]
              refine wpAnyH_chainOf [] _ _ _ (by kernel_rfl) (by kernel_rfl) ?_
              refine wpChain_nil ?_
              have HQN := hide hqN
              have HRC := hide (show rawCells (ys ++ [xn]) = xs ++ listL (.slice (some ⟨V9.heap.size, 0, none⟩) 2 2) by rw [rawCells_snoc, unhide HXS, hxn])
              clear hg3 hB1 hR1 hX1 hqN hob hnil hgr hown hels2 hnew hxn hS3 hS1 hS
              go_wp2_with fail
              go_roundg g
              case measure => omega
              case rel => exact ⟨k + 1, _, ys ++ [xn], rfl, by have := unhide HK; omega, by have := unhide HK; simp; omega, unhide HX3, by rw [unhide HRC]; exact unhide HO3, fun e => (unhide HQN) (Option.some.inj e), unhide HR3, unhide HB3, unhide HEL3⟩
    · have i1 : ¬ (k : Int) < (n : Int) := by omega
      obtain rfl : k = n := by omega
      have HF := hide hx; have HO := hide ho; have HR := hide hr; have HB := hide hb; have HEL := hide hels; have HYL := hide hyl
      clear hk hkn hx ho hr hb hvN hels hyl
      go_upto_region 7 with fail
      refine wp_region_lit ?_
      refine wpList_vload rfl 66 (.tmp 3) rfl N 0 rfl _ Tryz.underlying66 rfl (listL vL) infoVl (unhide HF).range ?_
      try simp only [List.getElem_toArray, List.getElem_cons_zero, List.getElem_cons_succ, Act.put, List.setIfInBounds_toArray, List.set_cons_zero, List.set_cons_succ]
      have hvo := ownSlice' (unhide HO)
      refine wpList_vput rfl 66 (.tmp 2) (.tmp 30) rfl w.heap.size 0 rfl (listL vL) rfl infoVl (listL_one (by obtain ⟨A', c', rfl⟩ := hvo; rfl)) _ fzeroV (unhide HR) (show 0 + 5 ≤ 5 by omega) ?_
      intro W9 HW9 HG
      rw [spliceV_all fzeroV (listL vL) rfl] at HW9
      clear hvo
      go_wp2_with fail
      try simp only [Exit.inBlock, Exit.then]
      have hsz := (unhide HG).size
      refine vret rfl rfl w.heap.size rfl _ _ (unhide HW9) _ Tryz.underlying66 rfl infoVl ⟨vL, ys, rfl, by rw [unhide HYL]; exact (unhide HN).1, ?_, (unhide HB).grown (unhide HG) (unhide HB).size (fun i e => by injection e with e; omega), fun i x c h1 h2 => ?_⟩
      · rw [unhide HYL]
        exact (unhide HO).kept (unhide HG) (.inr (fun e => by have := ((unhide HO).lt _ e).1; omega))
      · exact ((unhide HEL) i x c h1 h2).keep (fun b hp => ⟨Nat.le_of_lt hp.1, by have := hp.2.1; omega⟩) fun b hp => (unhide HG).block b hp.2.1 (fun e => by injection e with e; have := hp.1; omega)
end Go.Proofs.YtdmaopfaeigelaaGreatDoor
namespace Go.Proofs.YtdmaopfaeigelaaGreatDoor
set_option linter.unusedSimpArgs false
set_option linter.unusedVariables false
set_option maxRecDepth 100000
open Go.RowKit Go.Shelf

/-- cards whose cells the rounds leave as they are -/
structure ScF (X : Nat) (W : World) (A : Option Addr) (l : List Cd) (k : Nat) : Prop where
  sl : Sc W A l k
  free : ∀ b o, A = some ⟨b, o, none⟩ → l ≠ [] → FreeB X W b
theorem ScF.kp {X : Nat} {W W' : World} {A : Option Addr} {l : List Cd} {k : Nat} (h : ScF X W A l k) (hl : Lst X W) (hk : KpV X W W') : ScF X W' A l k := by
  refine ⟨⟨⟨fun hn => ?_⟩, h.sl.cap, h.sl.nil, h.sl.few⟩, fun b o e hn => (hk.free hl b (h.free b o e hn)).2⟩
  obtain ⟨b, o, e, hc⟩ := h.sl.it.at_ hn
  have hb := (hk.free hl b (h.free b o e hn)).1
  refine ⟨b, o, e, fun j x hj => ?_⟩
  obtain ⟨h1, h2⟩ := hc j x hj
  exact ⟨(World.cell?_of_block (a := ⟨b, o + j * 2, none⟩) hb).trans h1, (World.cell?_of_block (a := ⟨b, o + j * 2 + 1, none⟩) hb).trans h2⟩
set_option maxHeartbeats 4000000 in
theorem yShe_in (nf : Nat) (hnf : 3 ≤ nf) (X L N B D : Nat) (J : List Raw → World → Prop) (hJ : AbidesFrom D J) (hY : YOn X L N J) (s : Sh) (A1 : Option Addr) (k1 : Nat) (A2 : Option Addr) (k2 : Nat) (A3 : Option Addr) (k3 : Nat) (A4 : Option Addr) (k4 : Nat) (hg : AllI (gameL s.g)) (hn : AllI [s.rf, s.hg, s.ag, s.hp, s.ap]) (h1 : AllI s.hs) (h2 : AllI s.as_) (h3 : AllC s.hc) (h4 : AllC s.ac)
    (Vs : List Va) (pre : List Raw) (W : World) (hI : Its X B J Vs pre W) (hN : pre.length + 10 ≤ N) (hA_l1 : SlF X W A1 s.hs k1) (hA_l2 : SlF X W A2 s.as_ k2) (hA_l3 : ScF X W A3 s.hc k3) (hA_l4 : ScF X W A4 s.ac k4) :
    CallsIn Fence.wide nf Tryz.prog 150 #[.agg #[.int .i64 s.g.s, .int .i64 s.g.c, .int .i64 s.g.h, .int .i64 s.g.a, .int .i64 s.rf, .int .i64 s.hg, .int .i64 s.ag, .int .i64 s.hp, .int .i64 s.ap, .slice A1 s.hs.length k1, .slice A2 s.as_.length k2, .slice A3 s.hc.length k3, .slice A4 s.ac.length k4], .func (.yield L) #[] #[]] W (YDone X B J (Vs ++ [numsA (gameL s.g)] ++ [numA s.rf, numA s.hg, numA s.ag, numA s.hp, numA s.ap] ++ [numsA s.hs] ++ [numsA s.as_] ++ [cardsA s.hc] ++ [cardsA s.ac]) W) := by
  have HJ := hide hJ; have HY := hide hY; have HI := hide hI; have HN := hide hN
  have HA_l1 := hide hA_l1
  obtain ⟨n_l1, hn_l1⟩ : ∃ n, n = (s.hs).length := ⟨_, rfl⟩
  have HN_l1 := hide hn_l1
  have HA_l2 := hide hA_l2
  obtain ⟨n_l2, hn_l2⟩ : ∃ n, n = (s.as_).length := ⟨_, rfl⟩
  have HN_l2 := hide hn_l2
  have HA_l3 := hide hA_l3
  obtain ⟨n_l3, hn_l3⟩ : ∃ n, n = (s.hc).length := ⟨_, rfl⟩
  have HN_l3 := hide hn_l3
  have HA_l4 := hide hA_l4
  obtain ⟨n_l4, hn_l4⟩ : ∃ n, n = (s.ac).length := ⟨_, rfl⟩
  have HN_l4 := hide hn_l4
  have H_hg := hide hg
  have H_hn := hide hn
  have H_h1 := hide h1
  have H_h2 := hide h2
  have H_h3 := hide h3
  have H_h4 := hide h4
  have h1n : 1 ≤ nf := by omega
  have h2n : 2 ≤ nf - 1 := by omega
  rw [← hn_l1, ← hn_l2, ← hn_l3, ← hn_l4]
  clear hJ hY hI hN hA_l1 hn_l1 hA_l2 hn_l2 hA_l3 hn_l3 hA_l4 hn_l4 hg hn h1 h2 h3 h4
  refine callsIn_of_wp Tryz.func150 rfl trivial ?_ rfl
  simp only [Tryz.ntmps150, List.size_toArray, List.length_cons, List.length_nil, Nat.reduceAdd, Nat.reduceSub, Array.replicate_succ, Array.replicate_zero, List.push_toArray, List.append_toArray, List.nil_append, List.cons_append]
  gi_wp2_with fail
  generalize hX1 : World.alloc W _ = W1
  have hB1 : Below W.heap.size W W1 := hX1 ▸ (Below.refl _ _).alloc (Nat.le_refl _) _
  have hv1 := boxedV W W1 [.int .i64 s.g.s, .int .i64 s.g.c, .int .i64 s.g.h, .int .i64 s.g.a, .int .i64 s.rf, .int .i64 s.hg, .int .i64 s.ag, .int .i64 s.hp, .int .i64 s.ap, .slice A1 n_l1 k1, .slice A2 n_l2 k2, .slice A3 n_l3 k3, .slice A4 n_l4 k4] 31 (by rw [← hX1]; rfl)
  have hz1 : W1.heap.size = W.heap.size + 1 := by rw [← hX1]; show (W.heap.push _).size = _; rw [Array.size_push]
  clear hX1
  have HX := hide (show Bx X W1 W.heap.size 31 [.int .i64 s.g.s, .int .i64 s.g.c, .int .i64 s.g.h, .int .i64 s.g.a, .int .i64 s.rf, .int .i64 s.hg, .int .i64 s.ag, .int .i64 s.hp, .int .i64 s.ap, .slice A1 n_l1 k1, .slice A2 n_l2 k2, .slice A3 n_l3 k3, .slice A4 n_l4 k4] from ⟨hv1, FreeB.new (unhide HI).lst hB1 (Nat.le_refl _) ⟨_, hv1, rfl⟩⟩)
  have HK := hide ((kpV X).below hB1)
  have HA_l1 := hide ((unhide HA_l1).kp (unhide HI).lst ((kpV X).below hB1))
  have HA_l2 := hide ((unhide HA_l2).kp (unhide HI).lst ((kpV X).below hB1))
  have HA_l3 := hide ((unhide HA_l3).kp (unhide HI).lst ((kpV X).below hB1))
  have HA_l4 := hide ((unhide HA_l4).kp (unhide HI).lst ((kpV X).below hB1))
  have HI := hide ((unhide HI).below (unhide HJ) hB1)
  clear hB1 hv1
  refine ⟨trivial, callsIn_wide.2 ((fgame_any s.g W1).mono ?_)⟩
  rintro e W2 h4
  obtain ⟨x, rfl, hnew, hb4⟩ := h4.new (unhide H_hg) (by simp [gameL])
  have hx := hnew.fr (unhide HI).lst hb4 (unhide HI).big
  have HX := hide ((unhide HX).kp (unhide HI).lst ((kpV X).below hb4))
  have HA_l1 := hide ((unhide HA_l1).kp (unhide HI).lst ((kpV X).below hb4))
  have HA_l2 := hide ((unhide HA_l2).kp (unhide HI).lst ((kpV X).below hb4))
  have HA_l3 := hide ((unhide HA_l3).kp (unhide HI).lst ((kpV X).below hb4))
  have HA_l4 := hide ((unhide HA_l4).kp (unhide HI).lst ((kpV X).below hb4))
  have HK := hide ((kpV X).trans (unhide HK) ((kpV X).below hb4))
  have HI := hide ((unhide HI).below (unhide HJ) hb4)
  obtain ⟨fn, tmps, assign, body, hy, hR⟩ := (unhide HY) (nf - 1) _ x W2 (unhide HI).j (by have := unhide HN; simp; omega)
  have HR := hide hR; have HE := hide hx
  clear hR hx hb4 hnew h4 
  gi_wp2
  refine (unhide HR).mono ?_
  rintro e W3 ⟨rfl, hJ5, hk5⟩
  have HX := hide ((unhide HX).kp (unhide HI).lst hk5)
  have HA_l1 := hide ((unhide HA_l1).kp (unhide HI).lst hk5)
  have HA_l2 := hide ((unhide HA_l2).kp (unhide HI).lst hk5)
  have HA_l3 := hide ((unhide HA_l3).kp (unhide HI).lst hk5)
  have HA_l4 := hide ((unhide HA_l4).kp (unhide HI).lst hk5)
  have HK := hide ((kpV X).trans (unhide HK) hk5)
  have HI := hide ((unhide HI).one (unhide HE) hk5 hJ5)
  clear hJ5 hk5 HR HE hy
  have hc4 : W3.cell? ⟨W.heap.size, 4, none⟩ = some (.int .i64 s.rf) := (unhide HX).at_.cell rfl
  have hc5 : W3.cell? ⟨W.heap.size, 5, none⟩ = some (.int .i64 s.hg) := (unhide HX).at_.cell rfl
  have hc6 : W3.cell? ⟨W.heap.size, 6, none⟩ = some (.int .i64 s.ag) := (unhide HX).at_.cell rfl
  have hc7 : W3.cell? ⟨W.heap.size, 7, none⟩ = some (.int .i64 s.hp) := (unhide HX).at_.cell rfl
  have hc8 : W3.cell? ⟨W.heap.size, 8, none⟩ = some (.int .i64 s.ap) := (unhide HX).at_.cell rfl
  gi_wp2_with fail
  generalize hXr : World.alloc W3 _ = W4
  have hbr : Below W3.heap.size W3 W4 := hXr ▸ (Below.refl _ _).alloc (Nat.le_refl _) _
  have hrow : W4.heap[W3.heap.size]? = some (.cells #[.int .i64 s.rf, .int .i64 s.hg, .int .i64 s.ag, .int .i64 s.hp, .int .i64 s.ap] 3 (0, 0)) := by
    rw [← hXr]
    show (W3.heap.push _)[W3.heap.size]? = _
    rw [Array.getElem?_push_size]
  clear hXr hc4 hc5 hc6 hc7 hc8
  have HX := hide ((unhide HX).kp (unhide HI).lst ((kpV X).below hbr))
  have HA_l1 := hide ((unhide HA_l1).kp (unhide HI).lst ((kpV X).below hbr))
  have HA_l2 := hide ((unhide HA_l2).kp (unhide HI).lst ((kpV X).below hbr))
  have HA_l3 := hide ((unhide HA_l3).kp (unhide HI).lst ((kpV X).below hbr))
  have HA_l4 := hide ((unhide HA_l4).kp (unhide HI).lst ((kpV X).below hbr))
  have HK := hide ((kpV X).trans (unhide HK) ((kpV X).below hbr))
  have HI := hide ((unhide HI).below (unhide HJ) hbr)
  refine ⟨trivial, (yNums_in (nf - 1) h2n L W3.heap.size 5 [s.rf, s.hg, s.ag, s.hp, s.ap] (by simp) (by simp) N (KpV X) (kpV X) J (fun _ _ => False) D (unhide HJ) ((unhide HY).num _) _ (by have := unhide HN; simp; omega) W4 _ _ hrow (fun j hj => ?_) (unhide HI).j).mono ?_⟩
  · match j, hj with
    | 0, _ => rfl
    | 1, _ => rfl
    | 2, _ => rfl
    | 3, _ => rfl
    | 4, _ => rfl
  rintro e W5 (⟨rfl, hJ3, hk3⟩ | ⟨_, _, _, h⟩)
  case inr => exact h.elim
  have HX := hide ((unhide HX).kp (unhide HI).lst hk3)
  have HA_l1 := hide ((unhide HA_l1).kp (unhide HI).lst hk3)
  have HA_l2 := hide ((unhide HA_l2).kp (unhide HI).lst hk3)
  have HA_l3 := hide ((unhide HA_l3).kp (unhide HI).lst hk3)
  have HA_l4 := hide ((unhide HA_l4).kp (unhide HI).lst hk3)
  have HK := hide ((kpV X).trans (unhide HK) hk3)
  have HI := hide ((unhide HI).nums (unhide H_hn) hk3 hJ3)
  clear hJ3 hk3 hrow hbr
  have hc9 : W5.cell? ⟨W.heap.size, 9, none⟩ = some (.slice A1 n_l1 k1) := (unhide HX).at_.cell rfl
  gi_wp2_with fail
  rw [unhide HN_l1]
  refine ⟨trivial, callsIn_wide.2 ((fnumbers_any A1 k1 s.hs W5 (unhide HA_l1).sl).mono ?_)⟩
  rintro e W6 h4
  obtain ⟨x, rfl, hnew, hb4⟩ := h4.new (unhide H_h1) (unhide HA_l1).sl.few
  have hx := hnew.fr (unhide HI).lst hb4 (unhide HI).big
  have HX := hide ((unhide HX).kp (unhide HI).lst ((kpV X).below hb4))
  have HA_l1 := hide ((unhide HA_l1).kp (unhide HI).lst ((kpV X).below hb4))
  have HA_l2 := hide ((unhide HA_l2).kp (unhide HI).lst ((kpV X).below hb4))
  have HA_l3 := hide ((unhide HA_l3).kp (unhide HI).lst ((kpV X).below hb4))
  have HA_l4 := hide ((unhide HA_l4).kp (unhide HI).lst ((kpV X).below hb4))
  have HK := hide ((kpV X).trans (unhide HK) ((kpV X).below hb4))
  have HI := hide ((unhide HI).below (unhide HJ) hb4)
  obtain ⟨fn, tmps, assign, body, hy, hR⟩ := (unhide HY) (nf - 1) _ x W6 (unhide HI).j (by have := unhide HN; simp; omega)
  have HR := hide hR; have HE := hide hx
  clear hR hx hb4 hnew h4 hc9
  gi_wp2
  refine (unhide HR).mono ?_
  rintro e W7 ⟨rfl, hJ5, hk5⟩
  have HX := hide ((unhide HX).kp (unhide HI).lst hk5)
  have HA_l1 := hide ((unhide HA_l1).kp (unhide HI).lst hk5)
  have HA_l2 := hide ((unhide HA_l2).kp (unhide HI).lst hk5)
  have HA_l3 := hide ((unhide HA_l3).kp (unhide HI).lst hk5)
  have HA_l4 := hide ((unhide HA_l4).kp (unhide HI).lst hk5)
  have HK := hide ((kpV X).trans (unhide HK) hk5)
  have HI := hide ((unhide HI).one (unhide HE) hk5 hJ5)
  clear hJ5 hk5 HR HE hy
  have hc10 : W7.cell? ⟨W.heap.size, 10, none⟩ = some (.slice A2 n_l2 k2) := (unhide HX).at_.cell rfl
  gi_wp2_with fail
  rw [unhide HN_l2]
  refine ⟨trivial, callsIn_wide.2 ((fnumbers_any A2 k2 s.as_ W7 (unhide HA_l2).sl).mono ?_)⟩
  rintro e W8 h4
  obtain ⟨x, rfl, hnew, hb4⟩ := h4.new (unhide H_h2) (unhide HA_l2).sl.few
  have hx := hnew.fr (unhide HI).lst hb4 (unhide HI).big
  have HX := hide ((unhide HX).kp (unhide HI).lst ((kpV X).below hb4))
  have HA_l1 := hide ((unhide HA_l1).kp (unhide HI).lst ((kpV X).below hb4))
  have HA_l2 := hide ((unhide HA_l2).kp (unhide HI).lst ((kpV X).below hb4))
  have HA_l3 := hide ((unhide HA_l3).kp (unhide HI).lst ((kpV X).below hb4))
  have HA_l4 := hide ((unhide HA_l4).kp (unhide HI).lst ((kpV X).below hb4))
  have HK := hide ((kpV X).trans (unhide HK) ((kpV X).below hb4))
  have HI := hide ((unhide HI).below (unhide HJ) hb4)
  obtain ⟨fn, tmps, assign, body, hy, hR⟩ := (unhide HY) (nf - 1) _ x W8 (unhide HI).j (by have := unhide HN; simp; omega)
  have HR := hide hR; have HE := hide hx
  clear hR hx hb4 hnew h4 hc10
  gi_wp2
  refine (unhide HR).mono ?_
  rintro e W9 ⟨rfl, hJ5, hk5⟩
  have HX := hide ((unhide HX).kp (unhide HI).lst hk5)
  have HA_l1 := hide ((unhide HA_l1).kp (unhide HI).lst hk5)
  have HA_l2 := hide ((unhide HA_l2).kp (unhide HI).lst hk5)
  have HA_l3 := hide ((unhide HA_l3).kp (unhide HI).lst hk5)
  have HA_l4 := hide ((unhide HA_l4).kp (unhide HI).lst hk5)
  have HK := hide ((kpV X).trans (unhide HK) hk5)
  have HI := hide ((unhide HI).one (unhide HE) hk5 hJ5)
  clear hJ5 hk5 HR HE hy
  have hc11 : W9.cell? ⟨W.heap.size, 11, none⟩ = some (.slice A3 n_l3 k3) := (unhide HX).at_.cell rfl
  gi_wp2_with fail
  rw [unhide HN_l3]
  refine ⟨trivial, callsIn_wide.2 ((fcards_any A3 k3 s.hc W9 (unhide HA_l3).sl (unhide H_h3)).mono ?_)⟩
  rintro e W10 h4
  obtain ⟨x, rfl, hnew, hb4⟩ := h4.new (unhide HA_l3).sl.few
  have hx := hnew.fr (unhide HI).lst hb4 (unhide HI).big
  have HX := hide ((unhide HX).kp (unhide HI).lst ((kpV X).below hb4))
  have HA_l1 := hide ((unhide HA_l1).kp (unhide HI).lst ((kpV X).below hb4))
  have HA_l2 := hide ((unhide HA_l2).kp (unhide HI).lst ((kpV X).below hb4))
  have HA_l3 := hide ((unhide HA_l3).kp (unhide HI).lst ((kpV X).below hb4))
  have HA_l4 := hide ((unhide HA_l4).kp (unhide HI).lst ((kpV X).below hb4))
  have HK := hide ((kpV X).trans (unhide HK) ((kpV X).below hb4))
  have HI := hide ((unhide HI).below (unhide HJ) hb4)
  obtain ⟨fn, tmps, assign, body, hy, hR⟩ := (unhide HY) (nf - 1) _ x W10 (unhide HI).j (by have := unhide HN; simp; omega)
  have HR := hide hR; have HE := hide hx
  clear hR hx hb4 hnew h4 hc11
  gi_wp2
  refine (unhide HR).mono ?_
  rintro e W11 ⟨rfl, hJ5, hk5⟩
  have HX := hide ((unhide HX).kp (unhide HI).lst hk5)
  have HA_l1 := hide ((unhide HA_l1).kp (unhide HI).lst hk5)
  have HA_l2 := hide ((unhide HA_l2).kp (unhide HI).lst hk5)
  have HA_l3 := hide ((unhide HA_l3).kp (unhide HI).lst hk5)
  have HA_l4 := hide ((unhide HA_l4).kp (unhide HI).lst hk5)
  have HK := hide ((kpV X).trans (unhide HK) hk5)
  have HI := hide ((unhide HI).one (unhide HE) hk5 hJ5)
  clear hJ5 hk5 HR HE hy
  have hc12 : W11.cell? ⟨W.heap.size, 12, none⟩ = some (.slice A4 n_l4 k4) := (unhide HX).at_.cell rfl
  gi_wp2_with fail
  rw [unhide HN_l4]
  refine ⟨trivial, callsIn_wide.2 ((fcards_any A4 k4 s.ac W11 (unhide HA_l4).sl (unhide H_h4)).mono ?_)⟩
  rintro e W12 h4
  obtain ⟨x, rfl, hnew, hb4⟩ := h4.new (unhide HA_l4).sl.few
  have hx := hnew.fr (unhide HI).lst hb4 (unhide HI).big
  have HX := hide ((unhide HX).kp (unhide HI).lst ((kpV X).below hb4))
  have HA_l1 := hide ((unhide HA_l1).kp (unhide HI).lst ((kpV X).below hb4))
  have HA_l2 := hide ((unhide HA_l2).kp (unhide HI).lst ((kpV X).below hb4))
  have HA_l3 := hide ((unhide HA_l3).kp (unhide HI).lst ((kpV X).below hb4))
  have HA_l4 := hide ((unhide HA_l4).kp (unhide HI).lst ((kpV X).below hb4))
  have HK := hide ((kpV X).trans (unhide HK) ((kpV X).below hb4))
  have HI := hide ((unhide HI).below (unhide HJ) hb4)
  obtain ⟨fn, tmps, assign, body, hy, hR⟩ := (unhide HY) (nf - 1) _ x W12 (unhide HI).j (by have := unhide HN; simp; omega)
  have HR := hide hR; have HE := hide hx
  clear hR hx hb4 hnew h4 hc12
  gi_wp2
  refine (unhide HR).mono ?_
  rintro e W13 ⟨rfl, hJ5, hk5⟩
  have HX := hide ((unhide HX).kp (unhide HI).lst hk5)
  have HA_l1 := hide ((unhide HA_l1).kp (unhide HI).lst hk5)
  have HA_l2 := hide ((unhide HA_l2).kp (unhide HI).lst hk5)
  have HA_l3 := hide ((unhide HA_l3).kp (unhide HI).lst hk5)
  have HA_l4 := hide ((unhide HA_l4).kp (unhide HI).lst hk5)
  have HK := hide ((kpV X).trans (unhide HK) hk5)
  have HI := hide ((unhide HI).one (unhide HE) hk5 hJ5)
  clear hJ5 hk5 HR HE hy
  have HD : Hid (YDone X B J (Vs ++ [numsA (gameL s.g)] ++ [numA s.rf, numA s.hg, numA s.ag, numA s.hp, numA s.ap] ++ [numsA s.hs] ++ [numsA s.as_] ++ [cardsA s.hc] ++ [cardsA s.ac]) W (.returned (.bool true)) W13) := ⟨rfl, ⟨_, unhide HI⟩, unhide HK⟩
  gi_wp2
  go_ret
  exact unhide HD
end Go.Proofs.YtdmaopfaeigelaaGreatDoor
