/- Contracts over the program of money: the iterator's first loop. -/
import Derived.Test.YthbdhlcimgiemaaDoorMonSort
import Derived.RangeFuncNested
import Derived.RangeFuncBound
import Derived.RangeFuncCalls
import Derived.RangeFuncLeaves
import Derived.RangeFuncBox
import Derived.Shelf.Abstract
import Derived.Shelf.RegionOpen
import Derived.OwnWalkIn
import Derived.TacticsInMore
import Derived.LoopNIn
import Derived.LoopIn
namespace Go.Proofs.YthbdhlcimgiemaaDoor
set_option linter.unusedSimpArgs false
set_option linter.unusedVariables false
open Go.RowKit Go.Shelf
attribute [local go_sem] Oper.semAt_some

theorem ediv_t {a b : Int} (h : 0 ≤ a) : a.tdiv b = a / b := Int.tdiv_eq_ediv_of_nonneg h
theorem emod_t {a b : Int} (h : 0 ≤ a) : a.tmod b = a % b := Int.tmod_eq_emod_of_nonneg h
theorem quo_bd {x T : Int} (h : 0 ≤ x) (h2 : x ≤ 1125899906842624000) (hT : 0 < T) : 0 ≤ x / T ∧ x / T ≤ 1125899906842624000 := by
  refine ⟨Int.ediv_nonneg h (by omega), ?_⟩
  exact Int.le_trans (Int.ediv_le_self T h) h2
theorem rem_bd2 {x T : Int} (hT : 0 < T) : 0 ≤ x % T ∧ x % T < T := ⟨Int.emod_nonneg _ (by omega), Int.emod_lt_of_pos _ hT⟩
theorem tot_take {l : List Int} {k : Nat} (h : k < l.length) : tot (l.take (k + 1)) = tot (l.take k) + l.getD k 0 := by
  induction l generalizing k with
  | nil => simp at h
  | cons x r ih =>
    cases k with
    | zero => simp [tot]
    | succ k =>
      have := ih (k := k) (by simpa using h)
      simp only [List.take_succ_cons, tot, this, List.getD_cons_succ]
      omega
theorem rms_take {l : List Int} {k : Nat} (h : k < l.length) : rmsFrom 0 (l.take (k + 1)) = rmsFrom 0 (l.take k) ++ [((k : Int), l.getD k 0)] := by
  rw [List.take_succ_eq_append_getElem h, rmsFrom_snoc, List.getD_eq_getElem?_getD, List.getElem?_eq_getElem h]
  simp [List.length_take, Nat.min_eq_left (Nat.le_of_lt h)]

theorem tot_take_le : ∀ {l : List Int} (k : Nat), (∀ x ∈ l, 0 ≤ x) → 0 ≤ tot (l.take k) ∧ tot (l.take k) ≤ tot l
  | [], k, _ => by simp [tot]
  | x :: r, 0, h => ⟨by simp [tot], by simpa [tot] using tot_nonneg h⟩
  | x :: r, k + 1, h => by
    have h1 := h x List.mem_cons_self
    have h2 := tot_take_le (l := r) k fun y hy => h y (List.mem_cons_of_mem _ hy)
    simp only [List.take_succ_cons, tot]
    omega
theorem quo_nonneg {a : Int} {ws : List Int} (h0 : 0 ≤ a) (hW : Wok ws) : ∀ x ∈ quoL a ws, 0 ≤ x := fun x hx => by
  obtain ⟨y, hy, rfl⟩ := List.mem_map.1 hx
  exact Int.ediv_nonneg (Int.mul_nonneg h0 (hW.2.2.1 y hy).1) (Int.le_of_lt hW.2.2.2)
theorem quo_take {a : Int} {ws : List Int} (h0 : 0 ≤ a) (hW : Wok ws) (k : Nat) : 0 ≤ tot ((quoL a ws).take k) ∧ tot ((quoL a ws).take k) ≤ a := by
  have h := tot_take_le k (quo_nonneg h0 hW)
  have h2 := (cents_bd (a := a) hW.2.2.2).1
  unfold centsP at h2
  omega
theorem grownSet {w W : World} {b : Nat} (h : w.grownBy W (some b)) (i : Nat) (x : Value) : w.grownBy (W.setCell ⟨b, i, none⟩ x) (some b) := by
  refine World.grownBy.trans h ⟨rfl, rfl, rfl, by simp, fun k hk hne => ?_⟩
  have : k ≠ b := fun e => hne (by rw [e])
  exact Below.heap_setCell _ _ _ _ (by show k ≠ b; exact this)
theorem KAt.turned {k : IntKind} {n : Nat} {w w' : World} {b : Nat} {t : TypeId} {f : Nat → Int} {row : Option Nat} (h : KAt k n w b t f) (hg : w.grownBy w' row) (hne : row ≠ some b) : KAt k n w' b t f := (hg.block b h.lt (fun e => hne e.symm)).trans h
/-- how often an index occurs -/
def cnt (j : Nat) (l : List Rm) : Nat := l.countP fun x => x.1 == (j : Int)
theorem count_one {j : Nat} {x : Rm} (hx : x.1 = (j : Int)) : ∀ {l : List Rm}, l.Nodup → (∀ y ∈ l, y.1 = (j : Int) → y = x) → cnt j l = if x ∈ l then 1 else 0
  | [], _, _ => by simp [cnt]
  | y :: t, hn, h => by
    have hn' := List.nodup_cons.1 hn
    have ih := count_one hx (l := t) hn'.2 fun z hz => h z (List.mem_cons_of_mem _ hz)
    unfold cnt at ih ⊢
    rw [List.countP_cons, ih]
    by_cases e : y.1 = (j : Int)
    · have := h y List.mem_cons_self e
      subst this
      rw [if_neg hn'.1]
      simp [e]
    · have hne : x ≠ y := fun h2 => e (h2 ▸ hx)
      have e1 : (y.1 == (j : Int)) = false := by simpa using e
      rw [e1]
      simp [hne]
theorem rms_unique {l : List Int} {x y : Rm} (hx : x ∈ rmsFrom 0 l) (hy : y ∈ rmsFrom 0 l) (h : x.1 = y.1) : x = y := by
  obtain ⟨i, _, rfl⟩ := mem_rms.1 hx
  obtain ⟨j, _, rfl⟩ := mem_rms.1 hy
  obtain rfl : i = j := Int.ofNat.inj h
  rfl
theorem cnt_gets {a : Int} {ws : List Int} {s : List Rm} {m j : Nat} (hp : s.Perm (rmsP a ws)) (hb : Before s) (hm : centsP a ws = (m : Int)) (hj : j < ws.length) :
    (cnt j (s.take m) : Int) = if gets a ws j then 1 else 0 := by
  have hx : ((j : Int), (remL a ws).getD j 0) ∈ s := hp.mem_iff.2 (mem_rms.2 ⟨j, by rw [remL_len]; exact hj, rfl⟩)
  have hn : s.Nodup := hp.nodup_iff.2 (rms_nodup _ 0).1
  rw [count_one (x := ((j : Int), (remL a ws).getD j 0)) rfl ((List.take_sublist m s).nodup hn) (fun y hy he => rms_unique (hp.mem_iff.1 (List.mem_of_mem_take hy)) (hp.mem_iff.1 hx) he)]
  have hiff := mem_take_iff (c := m) hb hx
  rw [rank_perm hp] at hiff
  unfold gets
  rw [hm]
  by_cases h : rank (rmsP a ws) ((j : Int), (remL a ws).getD j 0) < m
  · rw [if_pos (hiff.2 h), if_pos (by simpa using h)]; rfl
  · rw [if_neg (fun h2 => h (hiff.1 h2)), if_neg (by simpa using h)]; rfl
theorem cnt_le (j : Nat) (l : List Rm) : cnt j l ≤ l.length := List.countP_le_length
theorem cnt_take {s : List Rm} {k : Nat} (h : k < s.length) (j : Nat) : cnt j (s.take (k + 1)) = cnt j (s.take k) + if (s.getD k (0, 0)).1 = (j : Int) then 1 else 0 := by
  rw [List.take_succ_eq_append_getElem h, List.getD_eq_getElem?_getD, List.getElem?_eq_getElem h]
  unfold cnt
  rw [List.countP_append]
  simp
theorem RmAt.block {w w' : World} {g : Nat} {s : List Rm} (h : RmAt w g s) (hb : w'.heap[g]? = w.heap[g]?) : RmAt w' g s := fun j hj => by
  obtain ⟨h1, h2⟩ := h j hj
  exact ⟨(cell_block hb).trans h1, (cell_block hb).trans h2⟩
/-- where the second loop has come to -/
structure Rel2 (a : Int) (ws : List Int) (s : List Rm) (g : Nat) (w : World) (k : Nat) (wr : World) : Prop where
  col : KAt .i64 256 wr w.heap.size 54 (fun j => if j < ws.length then (quoL a ws).getD j 0 + (cnt j (s.take k) : Int) else 0)
  rm : RmAt wr g s
  lt : w.heap.size < g ∧ g < wr.heap.size
  bel : Below w.heap.size w wr
/-- where the first loop has come to -/
structure Rel1 (a : Int) (ws : List Int) (w : World) (k : Nat) (r ct : Value) (wr : World) : Prop where
  cents : ct = .int .i64 (a - tot ((quoL a ws).take k))
  col : KAt .i64 256 wr w.heap.size 54 (fun j => if j < k then (quoL a ws).getD j 0 else 0)
  row : wr.ownsRow (w.heap.size + 1) 57 2 r k (flat (rmsFrom 0 ((remL a ws).take k)))
  bel : Below w.heap.size w wr

/-- arrays that hold numbers lie as they lay -/
def isArr : Obj → Bool
  | .cells _ t _ => t == 54
  | _ => false
structure KeepArr (W W' : World) : Prop where
  size : W.heap.size ≤ W'.heap.size
  same : ∀ (k : Nat) (o : Obj), W.heap[k]? = some o → isArr o = true → W'.heap[k]? = some o
theorem keepArr_t {A B C : World} (h : KeepArr A B) (k : KeepArr B C) : KeepArr A C := ⟨Nat.le_trans h.size k.size, fun i o hi ho => k.same i o (h.same i o hi ho) ho⟩
/-- how the iterator ends -/
def SeqEnd (xs : List Int) (J Jx : List Int → World → Prop) (e : Ending) (W' : World) : Prop :=
  (∃ v, e = .returned v) ∧ ((∃ ys, ys = xs ∧ J ys W') ∨ (∃ pre, pre <+: xs ∧ Jx pre W'))

set_option maxRecDepth 100000 in
set_option maxHeartbeats 4000000 in
theorem parts_in (nf : Nat) (hnf : 1 ≤ nf) (L Bw Ba : Nat) (A : Option Addr) (c : Nat) (a : Int) (ws : List Int) (J Jx : List Int → World → Prop) (w : World) (hw : w.cell? ⟨Bw, 0, none⟩ = some (.slice A ws.length c)) (ha : w.cell? ⟨Ba, 0, none⟩ = some (.int .i64 a)) (hI : It w A ws) (hW : Wok ws) (h0 : 0 ≤ a) (h1 : a ≤ 1125899906842624)
    (hJ : AbidesFrom w.heap.size J)
    (hY : ∀ pre x W, J pre W → pre.length < ws.length → YieldAt Fence.wide (nf - 1) Tryd.prog L #[.int .i64 x] W fun e W' => (e = .returned (.bool true) ∧ J (pre ++ [x]) W' ∧ KeepArr W W') ∨ (e = .returned (.bool false) ∧ Jx (pre ++ [x]) W'))
    (hJ0 : J [] w) :
    CallsIn Fence.wide nf Tryd.prog 33 #[.func (.yield L) #[] #[], .pointer (some ⟨Bw, 0, none⟩), .pointer (some ⟨Ba, 0, none⟩)] w (SeqEnd (splitP a ws) J Jx) := by
  refine callsIn_wide.2 ?_
  have HJ := hide hJ
  have HY := hide hY
  have HJ0 := hide hJ0
  clear hJ hY hJ0
  obtain ⟨n, hn⟩ : ∃ n, n = ws.length := ⟨_, rfl⟩
  obtain ⟨T, hT⟩ : ∃ T, T = tot ws := ⟨_, rfl⟩
  have hbw := lt_of_cell hw
  have hba := lt_of_cell ha
  have htot := fun w' (hb : Below w.heap.size w w') => total_any A c ws w' (hI.keep hb) (by have := hW.2.1; omega) hW.2.2.1
  rw [← hn] at hw htot
  rw [← hT] at htot
  have HTOT := hide htot
  have HI := hide hI
  have HWK := hide hW
  have HN := hide hn
  have HT := hide hT
  obtain ⟨N, hN⟩ : ∃ N, N = w.heap.size := ⟨_, rfl⟩
  have HNN := hide hN
  clear htot hI hW hn hT
  go_enter Tryd.func33, Tryd.ntmps33
  go_upto_region 2 with fail
  generalize hX : World.alloc w _ = W0
  have hB0 : Below w.heap.size w W0 := hX ▸ (Below.refl _ _).alloc (Nat.le_refl _) _
  have hz0 : W0.heap.size = N + 1 := by rw [← hX, hN]; simp
  have hK0 : KAt .i64 256 W0 N 54 (fun _ => 0) := by
    rw [← hX, hN]
    show (w.heap.push _)[w.heap.size]? = _
    rw [Array.getElem?_push_size]
    kernel_rfl
  rw [← hB0.cell (p := ⟨Bw, 0, none⟩) hbw] at hw
  rw [← hB0.cell (p := ⟨Ba, 0, none⟩) hba] at ha
  have HB0 := hide hB0
  have HK0 := hide hK0
  have Hz0 := hide hz0
  have HA := hide ha
  rw [← hN]
  clear hX hB0 hK0 hz0 ha hN
  go_wp2_with fail
  refine ((unhide HTOT) _ (unhide HB0)).mono ?_; rintro e w1 ⟨rfl, rfl⟩
  have ha := unhide HA
  go_wp2_with fail
  have HW := hide hw
  clear ha hw
  go_loopw [5, 7, 19] (fun r ct i wr => ∃ k : Nat, k ≤ n ∧ i = .int .i64 (k : Int) ∧ Rel1 a ws w k r ct wr) (fun r ct i wr => n - (intOf i).toNat)
  case atStart =>
    refine ⟨0, Nat.zero_le _, rfl, ⟨by simp [tot], ?_, World.ownsRow_nil _ _ _ _, unhide HB0⟩⟩
    rw [← unhide HNN]
    exact (unhide HK0).fn fun j hj => by simp
  case round =>
    obtain ⟨k, hk, rfl, hR⟩ := hrel
    have HR := hide hR
    obtain rfl := hR.cents
    have hr0 := hR.bel
    clear hR
    by_cases hlt : k < n
    · have hn := unhide HN
      have hkl : k < ws.length := by omega
      have hn256 : n ≤ 256 := by have := (unhide HWK).2.1; omega
      obtain ⟨b, o, rfl, hc⟩ := ((unhide HI).keep hr0).at_ (List.ne_nil_of_length_pos (by omega))
      have hck := hc k hkl
      obtain ⟨hx0, hx1⟩ := (unhide HWK).2.2.1.getD k
      have hq := quoL_at a ws k hkl
      have hrm := remL_at a ws k hkl
      have hT0 : 0 < T := by rw [unhide HT]; exact (unhide HWK).2.2.2
      rw [← unhide HT] at hq hrm
      have hqt := tot_take (l := quoL a ws) (k := k) (by rw [quoL_len]; exact hkl)
      have hrt := rms_take (l := remL a ws) (k := k) (by rw [remL_len]; exact hkl)
      have hb1 := quo_take h0 (unhide HWK) k
      have hb2 := quo_take h0 (unhide HWK) (k + 1)
      have hm := mul_bd (a := a) (p := ws.getD k 0) ⟨by omega, h1⟩ hx0 hx1
      have hm0 : 0 ≤ a * ws.getD k 0 := Int.mul_nonneg h0 hx0
      generalize ws.getD k 0 = x at hck hq hrm hm hm0 hx0 hx1
      obtain ⟨hq0, hq1⟩ := quo_bd hm0 hm.2 hT0
      obtain ⟨hr0', hr1'⟩ := rem_bd2 (x := a * x) hT0
      have hTt : T ≤ 256000 := by have := (tot_bd (unhide HWK).2.2.1).2; rw [unhide HT]; have := (unhide HWK).2.1; omega
      have m1 : IntKind.i64.wrap (a * x) = a * x := IntWalk.i64_in _ (by omega)
      have m2 := ediv_t (b := T) hm0
      have m3 := emod_t (b := T) hm0
      generalize hQ : a * x / T = q at hq hq0 hq1 m2
      generalize hRr : a * x % T = r1 at hrm hr0' hr1' m3
      obtain ⟨q', hqg⟩ : ∃ q', (quoL a ws).getD k 0 = q' := ⟨_, rfl⟩
      rw [hqg] at hq hqt
      obtain rfl : q' = q := hq
      generalize (remL a ws).getD k 0 = r' at hrm hrt
      obtain rfl : r' = r1 := hrm
      have hwq : IntKind.i64.wrap q' = q' := IntWalk.i64_in _ (by omega)
      have hwr : IntKind.i64.wrap r' = r' := IntWalk.i64_in _ (by omega)
      have hTne : ¬ T = 0 := by omega
      have hTb : (T == 0) = false := by simpa using hTne
      have hC0 : IntKind.i64.wrap (a - tot ((quoL a ws).take k) - q') = a - tot ((quoL a ws).take k) - q' := IntWalk.i64_in _ (by omega)
      have hac : wr.cell? ⟨Ba, 0, none⟩ = some (.int .i64 a) := by rw [hr0.cell (p := ⟨Ba, 0, none⟩) hba, ← (unhide HB0).cell (p := ⟨Ba, 0, none⟩) hba]; exact unhide HA
      have hcol := (unhide HR).col
      rw [← unhide HNN] at hcol
      have hcc := hcol.cell (j := k) (by omega)
      rw [if_neg (by omega)] at hcc
      have hcf := hcol.free k
      have hBaN : Ba ≠ N := by have := unhide HNN; have h9 : Ba < w.heap.size := hba; omega
      have hBaN2 : N ≠ Ba := hBaN.symm
      have hk0 : (0 : Int) ≤ (k : Int) := Int.natCast_nonneg _
      have hk1 : (k : Int) < 256 := by omega
      have hrow := (unhide HR).row
      rw [← unhide HNN] at hrow
      have hNr : N < wr.heap.size := hcol.lt
      have hrow2 := hrow.kept (grownSet (World.grownBy.refl wr (some N)) k (.int .i64 q')) (.inr (fun e => by have := (hrow.lt N e).1; omega))
      obtain ⟨i0, hi, hz0, hz1, hz2⟩ := info_parts infoR
      have HROW := hide hrow2
      have HCOL := hide hcol
      have Hqt := hide hqt
      have Hrt := hide hrt
      have Hnum : Hid (0 ≤ q' ∧ k < n ∧ n ≤ 256 ∧ N < wr.heap.size) := ⟨hq0, hlt, hn256, hNr⟩
      have HBR : Hid (Below w.heap.size w (wr.setCell ⟨N, k, none⟩ (.int .i64 q'))) := hr0.setCell (p := ⟨N, k, none⟩) (by show w.heap.size ≤ N; have := unhide HNN; omega) _
      have HKS : Hid (KAt .i64 256 (wr.setCell ⟨N, k, none⟩ (.int .i64 q')) N 54 (fun j => if j < k + 1 then (quoL a ws).getD j 0 else 0)) := by
        refine (hcol.set (j := k) (by omega) q').fn fun j hj => ?_
        unfold upd
        by_cases e : j = k
        · subst e; rw [if_pos rfl, if_pos (by omega)]; exact hqg.symm
        · rw [if_neg e]
          dsimp only
          by_cases h : j < k
          · rw [if_pos h, if_pos (by omega)]
          · rw [if_neg h, if_neg (by omega)]
      generalize hCt : a - tot ((quoL a ws).take k) = C at hC0 hb1
      have HCt := hide hCt
      clear hCt hrow hrow2 hcol hqt hrt hb1 hb2 hQ hRr hc hn hkl hm hr0 hqg
      go_wp2_with (at_builtin; refine wpList_append_own _ rfl _ _ 55 rfl (N + 1) 57 i0 (.agg #[.int .i64 0, .int .i64 0]) 2 16 Tryd.underlying55 hi hz0 hz1 hz2 rfl (by decide) _ _ _ rfl (World.ownsRow.alloc (unhide HROW) _) ⟨_, 0, none⟩ 1 1 [.int .i64 (k : Int), .int .i64 r'] rfl rfl ?c1 ?c2 ?c3 ?c4 ?c5 ?_)
      case c1 => exact twoCells (show (World.alloc _ _).cell? _ = _ from by go_simp) (show (World.alloc _ _).cell? _ = _ from by go_simp)
      case c2 => exact twoOne _ _
      case c3 => unfold maxLen; have := unhide Hnum; omega
      case c4 => have := unhide Hnum; omega
      case c5 => have := unhide Hnum; simp; omega
      intro v' w1 hown hgrow _
      have HO1 := hide hown
      have HKN : Hid (KAt .i64 256 w1 N 54 (fun j => if j < k + 1 then (quoL a ws).getD j 0 else 0)) := by
        refine ((unhide HKS).keep ((Below.refl _ _).alloc (Nat.le_refl _) _)).turned hgrow (fun e => ?_)
        have := ((unhide HROW).lt N e).1
        omega
      have HBN : Hid (Below w.heap.size w w1) := by
        refine ownBelow2 ((unhide HBR).alloc (by have := unhide Hnum; have := unhide HNN; simp; omega) _) (World.ownsRow.alloc (unhide HROW) _) hgrow (by have := unhide HNN; omega) (by have := unhide Hnum; have := unhide HNN; simp; omega)
      clear hown hgrow
      go_wp2_with fail
      go_roundw
      case rel =>
        refine ⟨k + 1, by have := unhide Hnum; omega, by go_num, ⟨?_, ?_, ?_, unhide HBN⟩⟩
        · rw [unhide Hqt, ← unhide HCt, Int.sub_sub]
        · rw [← unhide HNN]; exact unhide HKN
        · rw [← unhide HNN, unhide Hrt, flat_append]; exact unhide HO1
      case measure => simp [intOf]; have := unhide Hnum; omega
    · obtain rfl : k = n := by omega
      have hn := unhide HN
      have hn1 : 1 ≤ k := by have := (unhide HWK).1; omega
      have hn256 : k ≤ 256 := by have := (unhide HWK).2.1; omega
      have hrow := (unhide HR).row
      have hcol := (unhide HR).col
      rw [← unhide HNN] at hrow hcol
      rw [List.take_of_length_le (by rw [remL_len]; omega), show rmsFrom 0 (remL a ws) = rmsP a ws from rfl] at hrow
      have hct : a - tot ((quoL a ws).take k) = centsP a ws := by rw [List.take_of_length_le (by rw [quoL_len]; omega)]; rfl
      rw [hct]
      have hcb := cents_bd (a := a) (unhide HWK).2.2.2
      obtain ⟨g, cap, rfl⟩ : ∃ g cap, u5 = .slice (some ⟨g, 0, none⟩) k cap := by
        obtain ⟨k', rfl⟩ : ∃ k', k = k' + 1 := ⟨k - 1, by omega⟩
        exact ownsRow_succ hrow
      have hgl := hrow.lt g rfl
      have hcapn : k ≤ cap := by
        rcases hrow.2 with ⟨h, _⟩ | ⟨g1, c1, cur, h, hb, hg, hnc, hm, hs, ht⟩
        · cases h
        · injection h with h2 h3 h4; omega
      have hsort := sort_any g cap k (rmsP a ws) wr (N + 1) (by have := hcol.lt; omega) (by rw [rmsP_len]; omega) (by omega) (rms_nodup _ 0).1 hrow
      have HSO := hide hsort
      have HC := hide hcol
      generalize hCC : centsP a ws = C at hcb
      have HCC := hide hCC
      have Hg : Hid (N + 1 ≤ g ∧ g < wr.heap.size ∧ 0 ≤ C ∧ C ≤ (k : Int) ∧ k ≤ cap) := ⟨hgl.1, hgl.2, hcb.1, by rcases hcb.2.1 with h | h <;> omega, hcapn⟩
      have hBr := (unhide HR).bel
      have HBR := hide hBr
      clear hsort hrow hcol hct hcb hgl hCC hBr hcapn hr0 hlt hk hn
      go_wp2_with fail
      refine (unhide HSO).mono ?_; rintro e w2 ⟨rfl, s, hp, hbf, hat, hb2, hsame⟩
      have hN := unhide HNN
      have hgg := unhide Hg
      have hR2 : Rel2 a ws s g w 0 w2 := by
        refine ⟨?_, hat, ⟨by omega, by have := hb2.size; omega⟩, (unhide HBR).trans (hb2.mono (by omega))⟩
        rw [← hN]
        have hc2 : KAt .i64 256 w2 N 54 _ := (hsame N (unhide HC).lt (by omega)).trans (unhide HC)
        refine hc2.fn fun j hj => ?_
        have : ws.length = k := (unhide HN).symm
        rw [this]
        simp [cnt]
      have hsl : s.length = k := by rw [hp.length_eq, rmsP_len]; exact (unhide HN).symm
      obtain ⟨m, rfl⟩ : ∃ m : Nat, C = (m : Int) := ⟨C.toNat, by omega⟩
      have HR2 := hide hR2
      have HP := hide hp
      have HBF := hide hbf
      have HSL := hide hsl
      have hm1 : (m : Int) ≤ (k : Int) := hgg.2.2.2.1
      have hm0 : (0 : Int) ≤ (m : Int) := Int.natCast_nonneg _
      have hmc : (m : Int) ≤ (cap : Int) := by omega
      have hmc2 : m ≤ cap := by omega
      have hmk : m ≤ k := by omega
      clear hat hb2 hsame hR2 hp hbf hsl hN hgg
      have hww := unhide HW
      have hwx : w2.cell? ⟨Bw, 0, none⟩ = some (.slice A k c) := by
        rw [(unhide HR2).bel.cell (p := ⟨Bw, 0, none⟩) hbw, ← (unhide HB0).cell (p := ⟨Bw, 0, none⟩) hbw]; exact hww
      have HW2 := hide hwx
      clear hww hwx
      go_wp2_with fail
      go_loopw [53] (fun i wr => ∃ j : Nat, j ≤ m ∧ i = .int .i64 (j : Int) ∧ Rel2 a ws s g w j wr) (fun i wr => m - (intOf i).toNat)
      case atStart => exact ⟨0, Nat.zero_le _, rfl, unhide HR2⟩
      case round =>
        obtain ⟨j, hj, rfl, hR⟩ := hrel
        have HR3 := hide hR
        clear hR
        by_cases hlt : j < m
        · have hjs : j < s.length := by have := unhide HSL; omega
          obtain ⟨i0, hi0, hx⟩ : ∃ i0 : Nat, i0 < ws.length ∧ s.getD j (0, 0) = ((i0 : Int), (remL a ws).getD i0 0) := by
            have hm : s.getD j (0, 0) ∈ s := by rw [List.getD_eq_getElem?_getD, List.getElem?_eq_getElem hjs]; exact List.getElem_mem hjs
            obtain ⟨i0, h1, h2⟩ := mem_rms.1 ((unhide HP).mem_iff.1 hm)
            exact ⟨i0, by rwa [remL_len] at h1, h2⟩
          have hct := cnt_take hjs
          have hrm := (unhide HR3).rm j hjs
          rw [hx] at hct hrm
          generalize (remL a ws).getD i0 0 = ri at hrm
          obtain ⟨hrm1, hrm2⟩ := hrm
          have hcol := (unhide HR3).col
          rw [← unhide HNN] at hcol
          have hi256 : i0 < 256 := by have := (unhide HWK).2.1; omega
          have hcc := hcol.cell (j := i0) hi256
          have hcf := hcol.free i0
          rw [if_pos hi0] at hcc
          have hq1 : 0 ≤ (quoL a ws).getD i0 0 ∧ (quoL a ws).getD i0 0 ≤ 1125899906842624 := by
            have h2 := quo_nonneg h0 (unhide HWK)
            have h3 : (quoL a ws).getD i0 0 ∈ quoL a ws := by rw [List.getD_eq_getElem?_getD, List.getElem?_eq_getElem (by rw [quoL_len]; exact hi0)]; exact List.getElem_mem _
            have h4 := le_tot h2 _ h3
            have h5 := quo_take h0 (unhide HWK) ws.length
            rw [List.take_of_length_le (by rw [quoL_len]; omega)] at h5
            exact ⟨h2 _ h3, by omega⟩
          have hc1 : cnt i0 (s.take j) ≤ 256 := by have := cnt_le i0 (s.take j); rw [List.length_take] at this; omega
          obtain ⟨v, hv⟩ : ∃ v, v = (quoL a ws).getD i0 0 + (cnt i0 (s.take j) : Int) := ⟨_, rfl⟩
          rw [← hv] at hcc
          have hwv : IntKind.i64.wrap (v + 1) = v + 1 := IntWalk.i64_in _ (by omega)
          have hgl := (unhide HR3).lt
          have hNg : ¬ N = g := by have := unhide HNN; omega
          have hNg2 : ¬ g = N := fun e => hNg e.symm
          have hNs : N < wr.heap.size := hcol.lt
          have hgs : g < wr.heap.size := hgl.2
          have hi0' : (0 : Int) ≤ (i0 : Int) := Int.natCast_nonneg _
          have hi1' : (i0 : Int) < 256 := by omega
          have hj0' : (0 : Int) ≤ (j : Int) := Int.natCast_nonneg _
          have HV := hide hv
          have HCT := hide hct
          have HI0 := hide hi0
          have HCOL := hide hcol
          clear hv hct hi0 hq1 hc1 hgl hx hjs hcol
          go_wp2_with fail
          go_roundw
          case rel =>
            have hN := unhide HNN
            have hR := unhide HR3
            have hne : (wr.setCell ⟨N, i0, none⟩ (.int .i64 (v + 1))).heap[g]? = wr.heap[g]? := Below.heap_setCell _ _ _ _ (by show g ≠ N; exact hNg2)
            refine ⟨j + 1, by omega, by go_num, ⟨?_, ?_, ?_, ?_⟩⟩
            · rw [← hN]
              refine (((unhide HCOL).set (j := i0) hi256 (v + 1)).keep ((Below.refl _ _).alloc (Nat.le_refl _) _)).fn fun q hq => ?_
              unfold upd
              have hct : cnt q (s.take (j + 1)) = cnt q (s.take j) + if (i0 : Int) = (q : Int) then 1 else 0 := unhide HCT q
              by_cases e : q = i0
              · subst e
                rw [if_pos rfl, if_pos (unhide HI0), hct, if_pos rfl, unhide HV]
                omega
              · rw [if_neg e, hct, if_neg (show ¬ (i0 : Int) = (q : Int) by omega)]
                rfl
            · refine hR.rm.block ((Below.heap_alloc _ _ _ ?_).trans hne)
              simpa using hgs
            · refine ⟨hR.lt.1, ?_⟩
              simp
              omega
            · exact (hR.bel.setCell (p := ⟨N, i0, none⟩) (by show w.heap.size ≤ N; omega) _).alloc (by have := hR.bel.size; simp; omega) _
          case measure => simp [intOf]; omega
        · obtain rfl : j = m := by omega
          have hR := unhide HR3
          have hwx : wr.cell? ⟨Bw, 0, none⟩ = some (.slice A k c) := by
            rw [hR.bel.cell (p := ⟨Bw, 0, none⟩) hbw, ← (unhide HB0).cell (p := ⟨Bw, 0, none⟩) hbw]; exact unhide HW
          have hcol : KAt .i64 256 wr N 54 (fun q => if q < ws.length then (splitP a ws).getD q 0 else 0) := by
            have h := hR.col
            rw [← unhide HNN] at h
            refine h.fn fun q hq => ?_
            by_cases e : q < ws.length
            · rw [if_pos e, if_pos e, splitP_at a ws q e, cnt_gets (unhide HP) (unhide HBF) (unhide HCC) e]
              rfl
            · rw [if_neg e, if_neg e]
          have hJw : J [] wr := unhide HJ _ _ _ none (unhide HJ0) ⟨hR.bel.os, hR.bel.tape, hR.bel.output, hR.bel.size, fun q hq _ => hR.bel.block q hq⟩ (fun r e => by cases e)
          have hBw := hR.bel
          have HCOL := hide hcol
          have HJw := hide hJw
          clear hR hcol hJw hBw hlt hj
          have hk0' : (0 : Int) ≤ (k : Int) := Int.natCast_nonneg _
          have hk1' : (k : Int) ≤ 256 := by omega
          have hlen : (splitP a ws).length = k := by rw [splitP_len]; exact (unhide HN).symm
          have HLEN := hide hlen
          clear hlen
          go_wp2_with fail
          refine (wpIn_wide (n := nf)).1 ?_
          gi_wp2
          gi_loopw [68] (fun i wx => ∃ q : Nat, q ≤ k ∧ i = .int .i64 (q : Int) ∧ J ((splitP a ws).take q) wx ∧ KAt .i64 256 wx N 54 (fun q => if q < ws.length then (splitP a ws).getD q 0 else 0)) (fun i _ => k - (intOf i).toNat)
          case atStart => exact ⟨0, Nat.zero_le _, rfl, unhide HJw, unhide HCOL⟩
          case round =>
            obtain ⟨q, hq, rfl, hJs, hcol⟩ := hrel
            by_cases hlt : q < k
            · have hlw := unhide HN
              have hcx := hcol.cell (j := q) (by omega)
              rw [if_pos (by omega)] at hcx
              obtain ⟨fn, tmps, assign, body, hy, hR⟩ := unhide HY _ ((splitP a ws).getD q 0) wr hJs (by rw [List.length_take]; omega)
              have hx : (splitP a ws).take (q + 1) = (splitP a ws).take q ++ [(splitP a ws).getD q 0] := by
                have h := unhide HLEN
                rw [List.take_succ_eq_append_getElem (by omega), List.getD_eq_getElem?_getD, List.getElem?_eq_getElem (by omega)]
                rfl
              have HX := hide hx
              have HCOLX := hide hcol
              have HR4 := hide hR
              generalize (splitP a ws).getD q 0 = x at *
              have hpre : Hid ((splitP a ws).take q ++ [x] <+: splitP a ws) := by rw [← unhide HX]; exact List.take_prefix _ _
              have hq0 : (0 : Int) ≤ (q : Int) := Int.natCast_nonneg _
              clear hJs hcol hlw hx hR
              gi_wp2
              refine (unhide HR4).mono ?_
              rintro e W3 (⟨rfl, hJ3, hk3⟩ | ⟨rfl, hJx3⟩)
              · have HJ3 := hide hJ3
                have HK3 := hide hk3
                clear hJ3 hk3
                gi_wp2
                go_roundw
                case rel => exact ⟨q + 1, by omega, by go_num, by rw [unhide HX]; exact unhide HJ3, (unhide HK3).same _ _ (unhide HCOLX) (by rfl)⟩
                case measure => simp [intOf]; omega
              · have HJ3 := hide hJx3
                clear hJx3
                gi_wp2
                refine bodyPost_ret (results_none rfl _ _ _) rfl ?_
                exact ⟨⟨_, rfl⟩, .inr ⟨_, unhide hpre, unhide HJ3⟩⟩
            · have hJe : J (splitP a ws) wr := by
                have h := unhide HLEN
                rw [List.take_of_length_le (by omega)] at hJs
                exact hJs
              have HJE := hide hJe
              clear hJs hcol hJe
              gi_wp2
              go_end0
              exact ⟨⟨_, rfl⟩, .inl ⟨_, rfl, unhide HJE⟩⟩
end Go.Proofs.YthbdhlcimgiemaaDoor
