/- A region that draws in the body of a range over a function: the orders as in a plain walk. Contracts over the program of facts: numbers as values; numbers yielded. Contracts over the program of facts: the elements of a move. -/
import Derived.Test.YtdmaopfaeigelaaGreatDoorFacL
import Derived.Test.YtdmaopfaeigelaaGreatDoorFacO
namespace Go.Proofs.YtdmaopfaeigelaaGreatDoor
set_option linter.unusedSimpArgs false
set_option linter.unusedVariables false
open Go.RowKit Go.Shelf

def Qn (K : Act → World → Prop) (e : Exit) (a : Act) (w : World) : Prop := match e with
  | .normal => K a w
  | _ => False
theorem qn_out {K : Act → World → Prop} (h : LetsOut (Qn K)) : False := by
  obtain ⟨a, w, h⟩ := h
  exact h
theorem qn_of {Q : Exit → Act → World → Prop} (e : Exit) (a : Act) (w : World) (h : Qn (Q .normal) e a w) : Q e a w := by
  cases e with
  | normal => exact h
  | _ => exact h.elim
theorem heldQ {P : Program} {Q : Exit → Act → World → Prop} {S : World → Prop} {ops : Array Oper} {id : Nat} {a : Act} {w : World} (W : World) (hW : Hid (W = w.drewN 1)) (hm : P.follows .mixedOrders = true)
    (h : ∀ K : Act → World → Prop, (∀ a' w', Q .normal a' w' → K a' w') → wpAnyH P .any ops (Qn K) S ops.size (Array.replicate ops.size false) a W) : (Code.region id ops true).wp P Q a w :=
  wp_mono (held W hW hm (h _ fun _ _ h => h)) qn_of
theorem rowsIn_of {n : Nat} {P : Program} {row : String} {args : Array Value} {w : World} {R : Value → World → Prop} (l : Nat) (h : Rows P row args w R) : RowsIn (Fence.wide.inRound l) n P row args w R := by
  intro c cs hr
  obtain ⟨v, w', q, s⟩ := h c cs
  exact ⟨v, w', q, stepsIn_wide.2 s⟩
theorem operIn_of {n l : Nat} {P : Program} {o : Oper} {a : Act} {w : World} {K K' : Act → World → Prop} {Kn : Act → World → Prop} (hd : ∀ c, o.op ≠ .defer c) (hK : ∀ a w, K a w → K' a w) (h : o.wp P a w K (Qn Kn)) : o.wpIn (Fence.wide.inRound l) n P a w K' (Qn Kn) := by
  refine ⟨fun _ _ => trivial, ?_⟩
  rw [Oper.semAt_eq _ _ _ hd]
  unfold Oper.wp at h
  generalize (execOp a.eval o).run P w = r at *
  have hno : ¬ ((Fence.wide.inRound l).depth.isSome = true) := by simp [Fence.wide]
  cases r with
  | ok x w' =>
    cases x <;> simp only [Oper.upon, Oper.uponIn] at h ⊢ <;>
      first
        | exact hK _ _ h
        | exact ⟨fun e => absurd e hno, (callsIn_wide.2 (Calls.mono h (fun e w'' he => by cases e <;> first | exact hK _ _ he | exact he))).inRound l⟩
        | exact ⟨fun e => absurd e hno, rowsIn_of l (Rows.mono h (fun _ _ he => hK _ _ he))⟩
  | halt x w' => cases x <;> simp only [Oper.upon, Oper.uponIn] at h ⊢ <;> exact h
theorem anyIn_of {n l : Nat} {P : Program} {md : Region.Mode} {ops : Array Oper} {K : Act → World → Prop} (hd : ∀ (i : Nat) (o : Oper), ops[i]? = some o → ∀ c, o.op ≠ .defer c) :
    ∀ (fuel : Nat) (listed : Array Bool) (a : Act) (w : World), wpAny P md ops (Qn K) fuel listed a w → wpAnyIn (Fence.wide.inRound l) n P md ops (Qn K) fuel listed a w
  | 0, listed, a, w, h => h
  | fuel + 1, listed, a, w, h => by
    refine ⟨h.1, fun i hi => ?_⟩
    have h2 := h.2 i hi
    unfold wpOp at h2
    unfold wpOpIn
    cases ho : ops[i]? with
    | none => simp only [ho] at h2; exact anyIn_of hd fuel _ _ _ h2
    | some o =>
      simp only [ho] at h2 ⊢
      by_cases hw : Region.wanted o (yielded ops a.tmps) = true
      · rw [if_pos hw] at h2 ⊢
        rcases h2 with h2 | ⟨_, h2⟩
        · exact operIn_of (hd i o ho) (fun a' w' h' => anyIn_of hd fuel _ a' w' h') h2
        · exact (qn_out h2).elim
      · rw [if_neg hw] at h2 ⊢
        exact ⟨fun _ _ => trivial, anyIn_of hd fuel _ _ _ h2⟩
def noDefer (ops : Array Oper) : Bool := ops.all fun o => match o.op with | .defer _ => false | _ => true
theorem noDefer_at {ops : Array Oper} (h : noDefer ops = true) (i : Nat) (o : Oper) (ho : ops[i]? = some o) (c : Call) : o.op ≠ .defer c := by
  intro e
  unfold noDefer at h
  rw [Array.all_eq_true'] at h
  have := h o (Array.mem_of_getElem? ho)
  rw [e] at this
  cases this
/-- a region that draws, in a round -/
theorem round_region {n l id : Nat} {P : Program} {ops : Array Oper} {Q : Exit → Act → World → Prop} {S : World → Prop} {a : Act} {w : World} (W : World) (hW : Hid (W = w.drewN 1)) (hm : P.follows .mixedOrders = true) (hd : noDefer ops = true)
    (h : ∀ K : Act → World → Prop, (∀ a' w', Q .normal a' w' → K a' w') → wpAnyH P .any ops (Qn K) S ops.size (Array.replicate ops.size false) a W) : (Code.region id ops true).wpIn (Fence.wide.inRound l) n P Q a w := by
  have e : W = w.drewN 1 := hW
  subst e
  refine wpIn_mono (Q := Qn (Q .normal)) (wpIn_region_any hm (anyIn_of (noDefer_at hd) _ _ _ _ (wpAny_of_held _ _ _ _ (h _ fun _ _ h => h)))) qn_of
theorem listIn_of {n l : Nat} {P : Program} {ops : Array Oper} {K : Act → World → Prop} :
    ∀ (os : List Oper) (hd : ∀ o ∈ os, ∀ c, o.op ≠ .defer c) (a : Act) (w : World), wpList P ops (Qn K) os a w → wpListIn (Fence.wide.inRound l) n P ops (Qn K) os a w
  | [], _, a, w, h => h
  | o :: os, hd, a, w, h => by
    unfold wpList at h
    unfold wpListIn
    by_cases hw : Region.wanted o (yielded ops a.tmps) = true
    · rw [if_pos hw] at h ⊢
      rcases h with h | ⟨_, h⟩
      · exact operIn_of (hd o List.mem_cons_self) (fun a' w' h' => listIn_of os (fun o ho => hd o (List.mem_cons_of_mem _ ho)) a' w' h') h
      · exact (qn_out h).elim
    · rw [if_neg hw] at h ⊢
      exact ⟨fun _ _ => trivial, listIn_of os (fun o ho => hd o (List.mem_cons_of_mem _ ho)) _ _ h⟩
/-- a region in the text's order, in a round -/
theorem round_plain {n l id : Nat} {P : Program} {os : List Oper} {Q : Exit → Act → World → Prop} {a : Act} {w : World} (hd : noDefer os.toArray = true)
    (h : ∀ K : Act → World → Prop, (∀ a' w', Q .normal a' w' → K a' w') → wpList P os.toArray (Qn K) os a w) : (Code.region id os.toArray false).wpIn (Fence.wide.inRound l) n P Q a w := by
  refine wpIn_mono (Q := Qn (Q .normal)) (wpIn_region_lit (listIn_of _ (fun o ho c => ?_) _ _ (h _ fun _ _ h => h))) ?_
  · obtain ⟨i, hi⟩ := List.getElem?_of_mem ho
    exact noDefer_at hd i o (by simpa using hi) c
  · exact qn_of
theorem round_depth {m m' l : Nat} {P : Program} {args : Array Value} {W : World} {R : Ending → World → Prop} (h : YieldAt Fence.wide m P l args W R) : YieldAt Fence.wide m' P l args W R := by
  obtain ⟨fn, tmps, assign, body, hy, hR⟩ := h
  exact ⟨fn, tmps, assign, body, hy, ⟨hR.1, fun c cs _ => hR.2 c cs (room_wide _)⟩⟩
end Go.Proofs.YtdmaopfaeigelaaGreatDoor
namespace Go.Proofs.YtdmaopfaeigelaaGreatDoor
set_option linter.unusedSimpArgs false
set_option linter.unusedVariables false
open Go.RowKit Go.Shelf
attribute [local go_sem] Oper.semAt_some

/-- five cells -/
structure Raw where
  cs : List Value
  len : cs.length = 5
  one : ∀ v ∈ cs, v.oneCell' = true
def fzeroV : List Value := [.int .i64 0, .int .i64 0, .string ByteArray.empty, .slice none 0 0, .slice none 0 0]
def numL (n : Int) : List Value := [.int .i64 1, .int .i64 n, .string ByteArray.empty, .slice none 0 0, .slice none 0 0]
theorem numL_one (n : Int) : ∀ v ∈ numL n, v.oneCell' = true := by
  intro v hv
  simp only [numL, List.mem_cons, List.not_mem_nil, or_false] at hv
  rcases hv with rfl | rfl | rfl | rfl | rfl <;> rfl
def numV (n : Int) : Raw := ⟨numL n, rfl, numL_one n⟩
theorem infoVl : (Tryz.prog.info? 66).map (·.size) = some 5 := by kernel_rfl
set_option maxRecDepth 100000 in
theorem fnumber_any (n : Int) (w : World) : Calls Tryz.prog 80 #[.int .i64 n] w fun x w' => x = .returned (.agg (numL n).toArray) ∧ Below w.heap.size w w' := by
  go_enter Tryz.func80, Tryz.ntmps80
  go_upto_region 1 with fail
  generalize hX1 : w.alloc _ = W1
  have hB1 : Below w.heap.size w W1 := hX1 ▸ (Below.refl _ _).alloc (Nat.le_refl _) _
  have HV := hide (boxedV w W1 fzeroV 66 (by rw [← hX1]; rfl))
  have HB := hide hB1
  clear hX1 hB1
  refine wp_region_lit ?_
  refine wpList_plain rfl fun Kt hKt => ?_
  go_simp
  refine hKt _ _ ?_
  clear hKt Kt
  try simp only [List.getElem_toArray, List.getElem_cons_zero, List.getElem_cons_succ, Act.put, List.setIfInBounds_toArray, List.set_cons_zero, List.set_cons_succ]
  refine wpList_build rfl 66 _ rfl (numL n).toArray (by kernel_rfl) ?_
  try simp only [List.getElem_toArray, List.getElem_cons_zero, List.getElem_cons_succ, Act.put, List.setIfInBounds_toArray, List.set_cons_zero, List.set_cons_succ]
  refine wpList_vput rfl 66 (.tmp 2) (.tmp 4) rfl w.heap.size 0 rfl (numL n) rfl infoVl (numL_one n) _ fzeroV (unhide HV) (show 0 + 5 ≤ 5 by omega) ?_
  intro W9 HW9 HG
  rw [spliceV_all fzeroV (numL n) rfl] at HW9
  go_wp2_with fail
  try simp only [Exit.inBlock, Exit.then]
  exact vret rfl rfl w.heap.size rfl _ _ (unhide HW9) _ Tryz.underlying66 rfl infoVl ⟨rfl, (unhide HB).grown (unhide HG) (unhide HB).size (fun i e => by injection e with e; omega)⟩
/-- a relation of what a round keeps: old rows of ints among it -/
structure KeepsInts (Kp : World → World → Prop) : Prop where
  trans : ∀ {A B C : World}, Kp A B → Kp B C → Kp A C
  below : ∀ {A B : World}, Below A.heap.size A B → Kp A B
  ints : ∀ {A B : World}, Kp A B → ∀ (k : Nat) (cs : Array Value) (fz : Nat × Nat), A.heap[k]? = some (.cells cs 3 fz) → B.heap[k]? = some (.cells cs 3 fz)
def YNum (L nf N : Nat) (Kp : World → World → Prop) (J Jx : List Raw → World → Prop) : Prop :=
  ∀ pre x W, J pre W → pre.length < N → YieldAt Fence.wide nf Tryz.prog L #[.agg x.cs.toArray] W fun e W' => (e = .returned (.bool true) ∧ J (pre ++ [x]) W' ∧ Kp W W') ∨ (e = .returned (.bool false) ∧ Jx (pre ++ [x]) W')
theorem abides_below {B : Nat} {J : List Raw → World → Prop} (hJ : AbidesFrom B J) {pre : List Raw} {W W' : World} (h : J pre W) (hb : Below W.heap.size W W') : J pre W' :=
  hJ _ _ _ none h ⟨hb.os, hb.tape, hb.output, hb.size, fun q hq _ => hb.block q hq⟩ (fun r e => by cases e)
set_option maxRecDepth 100000 in
set_option maxHeartbeats 4000000 in
theorem yNums_in (nf : Nat) (hnf : 2 ≤ nf) (L b c : Nat) (l : List Int) (hcap : l.length ≤ c) (hfew : l.length ≤ 1000) (N : Nat) (Kp : World → World → Prop) (hKp : KeepsInts Kp) (J Jx : List Raw → World → Prop) (B : Nat) (hJ : AbidesFrom B J) (hY : YNum L (nf - 1) N Kp J Jx)
    (pre0 : List Raw) (hN : pre0.length + l.length ≤ N) (w : World) (cs : Array Value) (fz : Nat × Nat) (hrow : w.heap[b]? = some (.cells cs 3 fz)) (hc : ∀ j, j < l.length → cs[j]? = some (.int .i64 (l.getD j 0))) (hJ0 : J pre0 w) :
    CallsIn Fence.wide nf Tryz.prog 153 #[.func (.yield L) #[] #[], .slice (some ⟨b, 0, none⟩) l.length c] w fun e W' =>
      (e = .returned (.bool true) ∧ J (pre0 ++ l.map numV) W' ∧ Kp w W') ∨ (e = .returned (.bool false) ∧ ∃ k, k ≤ l.length ∧ Jx (pre0 ++ (l.take k).map numV) W') := by
  have HY := hide hY
  have HJ := hide hJ
  have HKP := hide hKp
  obtain ⟨n, hn⟩ : ∃ n, n = l.length := ⟨_, rfl⟩
  have HN : Hid (n = l.length ∧ n ≤ 1000 ∧ pre0.length + l.length ≤ N) := ⟨hn, by omega, hN⟩
  have HROW := hide hrow; have HC := hide hc; have HJ0 := hide hJ0
  have kc : (n : Int) ≤ (c : Int) := by omega
  rw [← hn]
  have h1n : 1 ≤ nf := by omega
  clear hY hJ hKp hn hrow hc hJ0 hN hcap hfew
  refine callsIn_of_wp Tryz.func153 rfl trivial ?_ rfl
  simp only [Tryz.ntmps153, List.size_toArray, List.length_cons, List.length_nil, Nat.reduceAdd, Nat.reduceSub, Array.replicate_succ, Array.replicate_zero, List.push_toArray, List.append_toArray, List.nil_append, List.cons_append]
  gi_wp2
  gi_loopw [9] (fun i wr => ∃ k : Nat, k ≤ n ∧ i = .int .i64 (k : Int) ∧ J (pre0 ++ (l.take k).map numV) wr ∧ (k = 0 → wr = w) ∧ (0 < k → Kp w wr)) (fun i _ => n - (intOf i).toNat)
  case atStart => exact ⟨0, Nat.zero_le _, rfl, by simpa using unhide HJ0, fun _ => rfl, fun h => absurd h (Nat.lt_irrefl 0)⟩
  case round =>
    obtain ⟨k, hk, rfl, hJs, hk0, hk1⟩ := hrel
    have hkk : k = 0 ∨ 0 < k := Nat.eq_zero_or_pos k
    have hrw : wr.heap[b]? = some (.cells cs 3 fz) := by
      rcases hkk with h | h
      · rw [hk0 h]; exact unhide HROW
      · exact (unhide HKP).ints (hk1 h) b cs fz (unhide HROW)
    have hkw : Kp w wr := by
      rcases hkk with h | h
      · rw [hk0 h]; exact (unhide HKP).below (Below.refl _ _)
      · exact hk1 h
    have HJS := hide hJs; have HKW := hide hkw
    clear hJs hk0 hk1 hkk hkw
    by_cases hlt : k < n
    · have hl := unhide HN
      have hcell : wr.cell? ⟨b, k, none⟩ = some (.int .i64 (l.getD k 0)) := by
        simp only [World.cell?, hrw]
        simpa using (unhide HC) k (by omega)
      have hsn : (l.take (k + 1)).map numV = (l.take k).map numV ++ [numV (l.getD k 0)] := by
        rw [List.take_succ_eq_append_getElem (by omega), List.map_append, List.getD_eq_getElem?_getD, List.getElem?_eq_getElem (by omega)]
        rfl
      have HSN := hide hsn
      have i1 : (k : Int) < (n : Int) := by omega
      have i0 : (0 : Int) ≤ (k : Int) := Int.natCast_nonneg _
      generalize l.getD k 0 = x at hcell HSN
      clear hrw hl hsn
      gi_wp2_with fail
      refine ⟨trivial, callsIn_wide.2 ((fnumber_any x wr).mono ?_)⟩
      rintro e w2 ⟨rfl, hB2⟩
      obtain ⟨fn, tmps, assign, body, hy, hR⟩ := (unhide HY) _ (numV x) w2 (abides_below (unhide HJ) (unhide HJS) hB2) (by have := unhide HN; simp; omega)
      have HB2 := hide hB2
      have HR := hide hR
      change (Instr.yield L #[.agg (numL x).toArray]).run Tryz.prog w2 = _ at hy
      have hn3 : n ≤ 1000 := (unhide HN).2.1
      clear hcell hB2 hR
      gi_wp2
      refine (unhide HR).mono ?_
      rintro e W3 (⟨rfl, hJ3, hk3⟩ | ⟨rfl, hJx3⟩)
      · have HJ3 := hide hJ3; have HK3 := hide hk3
        clear hJ3 hk3
        gi_wp2
        go_roundw
        case rel => exact ⟨k + 1, by omega, by go_num, by rw [unhide HSN, ← List.append_assoc]; exact unhide HJ3, fun h => absurd h (by omega), fun _ => (unhide HKP).trans (unhide HKW) ((unhide HKP).trans ((unhide HKP).below (unhide HB2)) (unhide HK3))⟩
        case measure => simp [intOf]; omega
      · have HJ3 := hide hJx3
        clear hJx3
        gi_wp2
        go_ret
        exact .inr ⟨rfl, k + 1, by have := unhide HN; omega, by rw [unhide HSN, ← List.append_assoc]; exact unhide HJ3⟩
    · obtain rfl : k = n := by omega
      gi_wp2
      go_ret
      exact .inl ⟨rfl, by have h := unhide HJS; rw [(unhide HN).1, List.take_length] at h; exact h, unhide HKW⟩
end Go.Proofs.YtdmaopfaeigelaaGreatDoor
namespace Go.Proofs.YtdmaopfaeigelaaGreatDoor
set_option linter.unusedSimpArgs false
set_option linter.unusedVariables false
open Go.RowKit Go.Shelf
attribute [local go_sem] Oper.semAt_some

/-- rows of ints lie as they lay -/
structure KeepI (W W' : World) : Prop where
  size : W.heap.size ≤ W'.heap.size
  same : ∀ (k : Nat) (cs : Array Value) (fz : Nat × Nat), W.heap[k]? = some (.cells cs 3 fz) → W'.heap[k]? = some (.cells cs 3 fz)
theorem keepI : KeepsInts KeepI := {
  trans := fun h k => ⟨Nat.le_trans h.size k.size, fun i cs fz hi => k.same i cs fz (h.same i cs fz hi)⟩
  below := fun h => ⟨h.size, fun k cs fz hk => (h.block k (Array.getElem?_eq_some_iff.1 hk).1).trans hk⟩
  ints := fun h => h.same }
theorem keepI_b {w : World} (W : World) (l : Nat) (o o' : Obj) (_ : w.heap.size ≤ l) (h : W.heap[l]? = some o) (hc : o.isCells = false) (_ : o.isWalk = false) : KeepI W (W.putObj l o') := by
  have hg := grownBy_putObj' W l o'
  refine ⟨hg.size, fun k cs fz hk => (hg.block k (Array.getElem?_eq_some_iff.1 hk).1 (fun e => ?_)).trans hk⟩
  injection e with e
  subst e
  rw [h] at hk
  cases hk
  cases hc
theorem moveOps (f : Fc) (a : Ad) {w : World} {b : Nat} (h : VsAt w b 45 (fC f a)) : w.cell? ⟨b, 0, none⟩ = some (.int .i64 f.kind) ∧ w.cell? ⟨b, 45, none⟩ = some (.int .i64 f.mp) ∧ w.cell? ⟨b, 46, none⟩ = some (.int .i64 f.mt) := by
  refine ⟨h.cell rfl, ?_, ?_⟩
  · have := h.fm 0 (.int .i64 f.mp) rfl
    exact this
  · have := h.fm 1 (.int .i64 f.mt) rfl
    exact this
set_option maxRecDepth 100000 in
set_option maxHeartbeats 4000000 in
theorem elemsMove_in (nf : Nat) (hnf : 3 ≤ nf) (L Bf N : Nat) (f : Fc) (a : Ad) (hk : f.kind = 6) (hN : 2 ≤ N) (Kp : World → World → Prop) (hKp : KeepsInts Kp) (J Jx : List Raw → World → Prop) (B : Nat) (hJ : AbidesFrom B J) (hY : ∀ m, YNum L m N Kp J Jx)
    (w : World) (hf : VsAt w Bf 45 (fC f a)) (hJ0 : J [] w) :
    CallsIn Fence.wide nf Tryz.prog 147 #[.func (.yield L) #[] #[], .pointer (some ⟨Bf, 0, none⟩)] w fun e W' => (∃ v, e = .returned v) ∧
      ((∃ ys, ys = [numV f.mp, numV f.mt] ∧ J ys W') ∨ (∃ pre, pre <+: [numV f.mp, numV f.mt] ∧ Jx pre W')) := by
  obtain ⟨h0, h45, h46⟩ := moveOps f a hf
  rw [hk] at h0
  obtain ⟨p, hp⟩ : ∃ p, p = f.mp := ⟨_, rfl⟩
  obtain ⟨t, ht⟩ : ∃ p, p = f.mt := ⟨_, rfl⟩
  rw [← hp] at h45 ⊢
  rw [← ht] at h46 ⊢
  have HJ := hide hJ; have HY := hide hY; have HKP := hide hKp; have HJ0 := hide hJ0
  have h1n : 1 ≤ nf := by omega
  have h2n : 2 ≤ nf - 1 := by omega
  clear hJ hY hKp hJ0 hf hk hp ht
  refine callsIn_of_wp Tryz.func147 rfl trivial ?_ rfl
  simp only [Tryz.ntmps147, List.size_toArray, List.length_cons, List.length_nil, Nat.reduceAdd, Nat.reduceSub, Array.replicate_succ, Array.replicate_zero, List.push_toArray, List.append_toArray, List.nil_append, List.cons_append]
  gi_wp2_with fail
  generalize hX : World.alloc _ _ = W1
  have hB1 : Below w.heap.size w W1 := hX ▸ (Below.refl _ _).alloc (Nat.le_refl _) _
  have hrow : W1.heap[w.heap.size]? = some (.cells #[.int .i64 p, .int .i64 t] 3 (0, 0)) := by
    rw [← hX]
    show (w.heap.push _)[w.heap.size]? = _
    rw [Array.getElem?_push_size]
  refine ⟨trivial, (yNums_in (nf - 1) h2n L w.heap.size 2 [p, t] (by simp) (by simp) N Kp (unhide HKP) J Jx B (unhide HJ) (fun _ _ _ hj hl => (unhide HY) _ _ _ _ hj hl) [] (by simpa using hN) W1 _ _ hrow (fun j hj => ?_) (abides_below (unhide HJ) (unhide HJ0) hB1)).mono ?_⟩
  · match j, hj with
    | 0, _ => rfl
    | 1, _ => rfl
  rintro e W3 (⟨rfl, hJ3, hk3⟩ | ⟨rfl, k, hk, hJx3⟩)
  · have HJ3 := hide hJ3
    clear hJ3 hk3 hrow hB1 hX
    gi_wp2
    go_end0
    exact ⟨⟨_, rfl⟩, .inl ⟨_, rfl, unhide HJ3⟩⟩
  · have HJ3 : Hid (∃ pre, pre <+: [numV p, numV t] ∧ Jx pre W3) := ⟨_, by
      have := List.take_prefix k [p, t]
      obtain ⟨r, hr⟩ := this
      exact ⟨r.map numV, by rw [List.nil_append, ← List.map_append, hr]; rfl⟩, hJx3⟩
    clear hJx3 hrow hB1 hX
    gi_wp2
    go_end0
    exact ⟨⟨_, rfl⟩, .inr (unhide HJ3)⟩
theorem movesStop (nf : Nat) (hnf : 3 ≤ nf) (Bf : Nat) (f : Fc) (a : Ad) (hk : f.kind = 6) (w : World) (hf : VsAt w Bf 45 (fC f a)) :
    SeqStopsK Fence.wide nf Tryz.prog 147 #[.pointer (some ⟨Bf, 0, none⟩)] (fun x : Raw => #[.agg x.cs.toArray]) KeepI (fun ys => ys = [numV f.mp, numV f.mt]) (fun pre => pre <+: [numV f.mp, numV f.mt]) 2 w := fun L J Jx W hW hJ hJx hY h0 =>
  elemsMove_in nf hnf L Bf 2 f a hk (Nat.le_refl _) KeepI keepI J Jx _ hJ (fun m pre x W1 hj hl => round_depth (hY pre x W1 hj hl)) W (hf.keep hW) h0
set_option maxRecDepth 100000 in
theorem elements_any (f : Fc) (a : Ad) (w : World) :
    Calls Tryz.prog 79 #[.agg (fC f a).toArray] w fun e w' => e = .returned (.func (.func 147) #[] #[.pointer (some ⟨w.heap.size, 0, none⟩)]) ∧ VsAt w' w.heap.size 45 (fC f a) ∧ Below w.heap.size w w' := by
  have hmf : ∀ (fn : Fn) (first cap : Array Value) (w : World), (Instr.makeFunc fn first cap).run Tryz.prog w = .ok (.func fn first cap) w := fun _ _ _ _ => rfl
  obtain ⟨cs, hcs⟩ : ∃ zz, zz = fC f a := ⟨_, rfl⟩
  rw [← hcs]
  clear hcs
  go_enter Tryz.func79, Tryz.ntmps79
  go_upto_region 1 with fail
  generalize hX1 : w.alloc _ = W1
  have hB1 : Below w.heap.size w W1 := hX1 ▸ (Below.refl _ _).alloc (Nat.le_refl _) _
  have HV := hide (boxedV w W1 cs 45 (by rw [← hX1]; rfl))
  have HB := hide hB1
  clear hX1 hB1
  go_wp2
  go_ret
  exact ⟨rfl, unhide HV, unhide HB⟩
end Go.Proofs.YtdmaopfaeigelaaGreatDoor
