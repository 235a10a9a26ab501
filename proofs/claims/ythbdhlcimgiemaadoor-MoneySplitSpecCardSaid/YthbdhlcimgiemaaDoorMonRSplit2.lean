/- Contracts over the program of money: the reference's Split, where it divides. -/
import Derived.Test.YthbdhlcimgiemaaDoorMonRMath
namespace Go.Proofs.YthbdhlcimgiemaaDoor
set_option linter.unusedSimpArgs false
set_option linter.unusedVariables false
open Go.RowKit

/-- n numbers in a block, which may be changed -/
structure Rw (w : World) (g n : Nat) (f : Nat → Int) : Prop where
  cell : ∀ i, i < n → w.cell? ⟨g, i, none⟩ = some (.int .i64 (f i))
  free : ∀ i, w.frozen? ⟨g, i, none⟩ = false
theorem frozen_block {w w' : World} {b o : Nat} (h : w'.heap[b]? = w.heap[b]?) : w'.frozen? ⟨b, o, none⟩ = w.frozen? ⟨b, o, none⟩ := World.frozen?_of_block h
theorem Rw.keep {w w' : World} {g n : Nat} {f : Nat → Int} (h : Rw w g n f) (hg : g < w.heap.size) (hb : Below w.heap.size w w') : Rw w' g n f :=
  ⟨fun i hi => (cell_block (hb.block g hg)).trans (h.cell i hi), fun i => (frozen_block (hb.block g hg)).trans (h.free i)⟩
theorem Rw.block {w w' : World} {g n : Nat} {f : Nat → Int} (h : Rw w g n f) (hb : w'.heap[g]? = w.heap[g]?) : Rw w' g n f :=
  ⟨fun i hi => (cell_block hb).trans (h.cell i hi), fun i => (frozen_block hb).trans (h.free i)⟩
theorem Rw.set {w : World} {g n : Nat} {f : Nat → Int} (h : Rw w g n f) {j : Nat} (hj : j < n) (v : Int) : Rw (w.setCell ⟨g, j, none⟩ (.int .i64 v)) g n (upd f j v) := by
  refine ⟨fun i hi => ?_, fun i => by rw [World.frozen?_setCell]; exact h.free i⟩
  unfold upd
  by_cases e : i = j
  · subst e
    rw [if_pos rfl]
    exact World.cell?_setCell_same' _ _ _ (by rw [h.cell i hi]; rfl)
  · rw [if_neg e, ← h.cell i hi]
    exact World.cell?_setCell_other _ _ _ _ (fun h2 => e (congrArg Addr.off h2).symm)
theorem Rw.fn {w : World} {g n : Nat} {f f' : Nat → Int} (h : Rw w g n f) (e : ∀ i, i < n → f i = f' i) : Rw w g n f' := ⟨fun i hi => by rw [h.cell i hi, e i hi], h.free⟩
theorem Rw.it {w : World} {g n : Nat} {f : Nat → Int} (h : Rw w g n f) {l : List Int} (hl : l.length = n) (e : ∀ i, i < n → f i = l.getD i 0) (h64 : ∀ x ∈ l, I64 x) : It w (some ⟨g, 0, none⟩) l :=
  ⟨h64, fun _ => ⟨g, 0, rfl, fun j hj => by rw [Nat.zero_add, h.cell j (by omega), e j (by omega)]⟩⟩
theorem rw_own {w : World} {B g n c : Nat} {l : List Int} (h : OwnI w B (.slice (some ⟨g, 0, none⟩) n c) l) (hl : l.length = n) : Rw w g n fun i => l.getD i 0 := by
  unfold OwnI at h
  rw [hl] at h
  refine ⟨fun i hi => ?_, fun i => h.frozenAt i⟩
  rw [h.cellAt i (by omega), List.getElem?_map, List.getD_eq_getElem?_getD, List.getElem?_eq_getElem (by omega)]
  rfl
theorem take_snocG' {l : List Int} {k : Nat} (h : k < l.length) : l.take (k + 1) = l.take k ++ [l.getD k 0] := by
  rw [List.take_succ_eq_append_getElem h, List.getD_eq_getElem?_getD, List.getElem?_eq_getElem h]
  rfl
theorem it_lt {w : World} {b o : Nat} {l : List Int} (h : It w (some ⟨b, o, none⟩) l) {k : Nat} (hk : k < l.length) : b < w.heap.size := by
  obtain ⟨b', o', e, hc⟩ := h.at_ (List.ne_nil_of_length_pos (Nat.lt_of_le_of_lt (Nat.zero_le _) hk))
  injection e with e; injection e with e1 e2
  subst e1 e2
  exact lt_of_cell (hc k hk)
theorem le_one (R : Nat → Int) : ∀ k, k < 1 → R k ≤ R 0 := fun k hk => by
  obtain rfl : k = 0 := by omega
  exact Int.le_refl _
theorem splitV_at' {a : Int} {ws : List Int} (ha : Am a) (hW : Wok ws) : (splitV a ws).length = ws.length ∧ (∀ i, i < ws.length → (splitV a ws).getD i 0 = sgn a * partAt (absI a) ws i) ∧ ∀ x ∈ splitV a ws, I64 x := by
  rw [splitV_ok ha hW]
  have hb := absI_bd ha
  refine ⟨by simp [splitP_len], fun i hi => ?_, fun x hx => ?_⟩
  · rw [← splitP_at _ _ _ hi]
    simp only [List.getD_eq_getElem?_getD, List.getElem?_map, List.getElem?_eq_getElem (show i < (splitP (absI a) ws).length by rw [splitP_len]; exact hi), Option.map_some, Option.getD_some]
  · obtain ⟨y, hy, rfl⟩ := List.mem_map.1 hx
    have h1 := splitP_mem hb.1 hW hy
    rcases sgn_cases a with h | h <;> rw [h] <;> exact ⟨by omega, by omega⟩
/-- two rows of the call's own, in blocks of their own -/
structure Two (w0 w : World) (n : Nat) (v u : Value) (l r : List Int) : Prop where
  out : OwnI w w0.heap.size v l
  rest : OwnI w w0.heap.size u r
  ne : v.ownBlock ≠ u.ownBlock
  some1 : ∃ g c, v = .slice (some ⟨g, 0, none⟩) n c
  some2 : ∃ g c, u = .slice (some ⟨g, 0, none⟩) n c
  bel : Below w0.heap.size w0 w

theorem Two.push_out {w0 w w1 : World} {n m : Nat} {v u v' : Value} {l r : List Int} {o : Obj} (h : Two w0 w n v u l r) {C : List Value} (hown : w1.ownsRow w0.heap.size 3 1 v' m C) (hg : (w.alloc o).grownBy w1 v.ownBlock) (hb : v'.ownBlock = v.ownBlock ∨ v'.ownBlock = some (w.alloc o).heap.size) :
    OwnI w1 w0.heap.size u r ∧ v'.ownBlock ≠ u.ownBlock ∧ Below w0.heap.size w0 w1 := by
  have hr2 := World.ownsRow.alloc h.rest o
  refine ⟨hr2.kept hg (.inr h.ne.symm), fun e => ?_, (h.bel.alloc h.bel.size _).grown hg (by have := h.bel.size; simp; omega) (fun k hk => (h.out.lt k hk).1)⟩
  rcases hb with h1 | h1
  · exact h.ne (h1 ▸ e)
  · have h2 := (h.rest.lt (w.alloc o).heap.size (by rw [← e, h1])).2
    simp at h2
    omega
def ROk (n : Nat) (X : List Int) (w : World) (e : Ending) (w' : World) : Prop := ∃ A c, e = .returned (.tuple #[.slice A n c, .int .i64 0]) ∧ It w' A X ∧ Below w.heap.size w w'
theorem two_start (w : World) : Two w ((w.alloc (.cells #[] 3)).alloc (.cells #[] 3)) 0 (.slice (some ⟨w.heap.size, 0, none⟩) 0 0) (.slice (some ⟨w.heap.size + 1, 0, none⟩) 0 0) [] [] := by
  refine ⟨(own_new w).later ((Below.refl _ _).alloc (Nat.le_refl _) _), ?_, ?_, ⟨_, _, rfl⟩, ⟨_, _, rfl⟩, ((Below.refl _ _).alloc (Nat.le_refl _) _).alloc (by simp) _⟩
  · have := own_new (w.alloc (.cells #[] 3))
    rw [World.size_alloc] at this
    exact ownLe this (by omega)
  · simp [Value.ownBlock]

set_option maxRecDepth 100000 in
set_option maxHeartbeats 4000000 in
theorem rsplit_ok0 (A : Option Addr) (c : Nat) (a : Int) (ws X : List Int) (s : List Rm) (m : Nat) (w : World) (h : Am a) (hI : It w A ws) (hW : Wok ws) (hX : X = splitV a ws) (hp : s.Perm (rmsP (absI a) ws)) (hb : Before s) (hm : centsP (absI a) ws = (m : Int)) :
    Calls Tryd.prog 16 #[.int .i64 a, .slice A ws.length c] w (ROk ws.length X w) := by
  obtain ⟨n, hn⟩ : ∃ n, n = ws.length := ⟨_, rfl⟩
  obtain ⟨T, hT⟩ : ∃ T, T = tot ws := ⟨_, rfl⟩
  obtain ⟨P, hP⟩ : ∃ P, P = absI a := ⟨_, rfl⟩
  have hT0 : 0 < T := by rw [hT]; exact hW.2.2.2
  have hTb : (T == 0) = false := by simp; omega
  have hn1 : 1 ≤ n := by rw [hn]; exact hW.1
  have hn2 : n ≤ 256 := by rw [hn]; exact hW.2.1
  have hPb := absI_bd h
  have hPa : max a (-a) = P := by rw [hP]; unfold absI; split <;> omega
  have ha1 := h.1
  have ha2 := h.2
  rw [← hP] at hPb hp hm
  rw [← hn]
  have HN := hide hn; have HI := hide hI; have HW := hide hW; have HT := hide hT; have HX := hide hX; have HP := hide hp; have HBF := hide hb; have HM := hide hm; have HPA := hide hP
  clear hn hI hW hX hp hb hm hT hP
  go_enter Tryd.func16, Tryd.ntmps16
  go_wp2_with fail
  refine (rcheck_ok a _ h).mono ?_; rintro e w' ⟨rfl, rfl⟩
  go_wp2_with fail
  go_loop [6, 7] (fun s i => ∃ (k : Nat) (m : Int), k ≤ n ∧ 0 ≤ m ∧ m ≤ 1000 * k ∧ tot ws = m + tot (ws.drop k) ∧ s = .int .i64 m ∧ i = .int .i64 (k : Int)) (fun _ i => n - (intOf i).toNat)
  case atStart => exact ⟨0, 0, Nat.zero_le _, by decide, by decide, by rw [List.drop_zero]; omega, rfl, rfl⟩
  case round =>
    obtain ⟨k, m1, hk, hm1, hm2, hs, rfl, rfl⟩ := hrel
    have HS := hide hs
    clear hs
    by_cases hlt : k < n
    · have hkl : k < ws.length := (unhide HN) ▸ hlt
      obtain ⟨b, o, rfl, hc⟩ := (unhide HI).at_ (List.ne_nil_of_length_pos (Nat.lt_of_le_of_lt (Nat.zero_le _) hkl))
      have hck := hc k hkl
      have hd := drop_at ws k hkl
      obtain ⟨hx0, hx1⟩ := (unhide HW).2.2.1.getD k
      generalize ws.getD k 0 = x at hck hd hx0 hx1
      have HD := hide hd
      clear hc hd hkl
      have hw : IntKind.i64.wrap (m1 + x) = m1 + x := IntWalk.i64_in _ (by omega)
      go_wp2_with fail
      go_round
      case rel => exact ⟨k + 1, m1 + x, by omega, by omega, by omega, by rw [unhide HS, unhide HD, tot]; omega, rfl, by go_num⟩
      case measure => simp [intOf]; omega
    · have e : T = m1 := by rw [unhide HT, unhide HS, List.drop_of_length_le (by have := unhide HN; omega)]; simp [tot]
      subst e
      clear HS
      go_wp2_with fail
      have hw0 : w'.heap.size + 1 < w'.heap.size + 2 := by omega
      obtain ⟨i0, hi, hz0, hz1, hz2⟩ := info_parts infoInt
      obtain ⟨wA, hwA⟩ : ∃ wA, wA = (w'.alloc (.cells #[] 3)).alloc (.cells #[] 3) := ⟨_, rfl⟩
      have h2s := two_start w'
      rw [← hwA] at h2s ⊢
      have H2 := hide h2s
      clear h2s hwA hw0
      go_loopw [9, 10, 11, 12] (fun v u lf i wr => ∃ k : Nat, k ≤ n ∧ i = .int .i64 (k : Int) ∧ lf = .int .i64 (P - tot ((quoL P ws).take k)) ∧ Two w' wr k v u ((quoL P ws).take k) ((remL P ws).take k)) (fun v u lf i wr => n - (intOf i).toNat)
      case atStart => exact ⟨0, Nat.zero_le _, rfl, by simp [tot], unhide H2⟩
      case round =>
        obtain ⟨k2, hk2, rfl, rfl, h2⟩ := hrel
        have H22 := hide h2
        have hbel := h2.bel
        by_cases hlt2 : k2 < n
        · have hkl : k2 < ws.length := (unhide HN) ▸ hlt2
          obtain ⟨b, o, rfl, hc⟩ := ((unhide HI).keep hbel).at_ (List.ne_nil_of_length_pos (Nat.lt_of_le_of_lt (Nat.zero_le _) hkl))
          have hck := hc k2 hkl
          have hbw : b < wr.heap.size := lt_of_cell hck
          have HBW : Hid (b < w'.heap.size) := it_lt (unhide HI) hkl
          obtain ⟨hx0, hx1⟩ := (unhide HW).2.2.1.getD k2
          have hq := quoL_at P ws k2 hkl
          have hrm := remL_at P ws k2 hkl
          rw [← unhide HT] at hq hrm
          have hqt := tot_take (l := quoL P ws) (k := k2) (by rw [quoL_len]; exact hkl)
          have hqs := take_snocG' (l := quoL P ws) (k := k2) (by rw [quoL_len]; exact hkl)
          have hrs := take_snocG' (l := remL P ws) (k := k2) (by rw [remL_len]; exact hkl)
          have hb1 := quo_take hPb.1 (unhide HW) k2
          have hb2 := quo_take hPb.1 (unhide HW) (k2 + 1)
          have hmm := mul_bd (a := P) (p := ws.getD k2 0) ⟨by omega, hPb.2⟩ hx0 hx1
          have hm0 : 0 ≤ P * ws.getD k2 0 := Int.mul_nonneg hPb.1 hx0
          generalize ws.getD k2 0 = x at hck hq hrm hmm hm0 hx0 hx1
          obtain ⟨hq0, hq1⟩ := quo_bd hm0 hmm.2 hT0
          obtain ⟨hr0', hr1'⟩ := rem_bd2 (x := P * x) hT0
          have hTt : T ≤ 256000 := by have := (tot_bd (unhide HW).2.2.1).2; have := unhide HT; have := (unhide HW).2.1; omega
          have m1 : IntKind.i64.wrap (P * x) = P * x := IntWalk.i64_in _ (by omega)
          have m2 := ediv_t (b := T) hm0
          have m3 := emod_t (b := T) hm0
          rw [hq] at hqt hqs
          rw [hrm] at hrs
          generalize P * x / T = q at hqt hqs hq0 hq1 m2
          generalize P * x % T = r at hrs hr0' hr1' m3
          have hwq : IntKind.i64.wrap q = q := IntWalk.i64_in _ (by omega)
          have hwr : IntKind.i64.wrap r = r := IntWalk.i64_in _ (by omega)
          have hTne : ¬ T = 0 := by omega
          have hC0 : IntKind.i64.wrap (P - tot ((quoL P ws).take k2) - q) = P - tot ((quoL P ws).take k2) - q := IntWalk.i64_in _ (by omega)
          have hlq : ((quoL P ws).take k2).length = k2 := by rw [List.length_take, quoL_len]; omega
          have hlr : ((remL P ws).take k2).length = k2 := by rw [List.length_take, remL_len]; omega
          obtain ⟨g1, c1, rfl⟩ := h2.some1
          obtain ⟨g2, c2, rfl⟩ := h2.some2
          have ho := h2.out
          have hr := h2.rest
          unfold OwnI at ho hr
          rw [hlq] at ho
          rw [hlr] at hr
          obtain ⟨C, hC⟩ : ∃ C, C = ((quoL P ws).take k2).map (Value.int .i64) := ⟨_, rfl⟩
          obtain ⟨D, hD⟩ : ∃ D, D = ((remL P ws).take k2).map (Value.int .i64) := ⟨_, rfl⟩
          rw [← hC] at ho
          rw [← hD] at hr
          have HO := hide ho; have HR := hide hr; have HC := hide hC; have HD := hide hD
          have HLQ := hide hlq; have HLR := hide hlr
          have HQT := hide hqt; have HQS := hide hqs; have HRS := hide hrs
          generalize hCt : P - tot ((quoL P ws).take k2) = L at hC0 hb1
          have HCt := hide hCt
          have hsz := hbel.size
          clear hc hq hrm hqt hqs hrs hb1 hb2 hmm hlq hlr ho hr hC hD hCt h2 hkl
          go_wp2_with (at_builtin; refine wpList_append_own_at _ rfl (.tmp 68) (.tmp 77) 22 rfl w'.heap.size 3 i0 (.int .i64 0) 1 8 Tryd.underlying22 hi hz0 hz1 hz2 rfl (by decide) _ _ _ rfl (World.ownsRow.alloc (unhide HO) _) ⟨wr.heap.size, 0, none⟩ 1 1 [.int .i64 q] rfl rfl (cell_one_new _ _ _) (fun u hu => by rw [List.mem_singleton.1 hu]; rfl) (by unfold maxLen; omega) (by omega) (by simp; omega) ?_)
          intro v1 w1 hown hgrow _ hob
          have hob' : v1.ownBlock = (Value.slice (some ⟨g1, 0, none⟩) k2 c1).ownBlock ∨ v1.ownBlock = some (wr.alloc (.cells #[.int .i64 q] 3)).heap.size := by
            rcases hob with h1 | h1
            · exact .inl h1
            · exact .inr (by rw [h1]; simp)
          obtain ⟨hr1, hne1, hbl1⟩ := (unhide H22).push_out hown hgrow hob'
          unfold OwnI at hr1
          rw [unhide HLR, ← unhide HD] at hr1
          obtain ⟨g3, c3, rfl⟩ := ownsRow_succ hown
          have HO1 := hide hown; have HR1 := hide hr1; have HNE := hide hne1; have HBL1 := hide hbl1
          have hsz1 := hbl1.size
          have hbw1 : b < w1.heap.size := by have := hgrow.size; simp at this; omega
          have hck1 : w1.cell? ⟨b, o + k2, none⟩ = some (.int .i64 x) := by
            rw [← hck, hbl1.cell (p := ⟨b, o + k2, none⟩) (unhide HBW), hbel.cell (p := ⟨b, o + k2, none⟩) (unhide HBW)]
          clear hown hgrow hob hob' hr1 hne1 hbl1 hck
          go_wp2_with (at_builtin; refine wpList_append_own_at _ rfl (.tmp 79) (.tmp 88) 22 rfl w'.heap.size 3 i0 (.int .i64 0) 1 8 Tryd.underlying22 hi hz0 hz1 hz2 rfl (by decide) _ _ _ rfl (World.ownsRow.alloc (unhide HR1) _) ⟨w1.heap.size, 0, none⟩ 1 1 [.int .i64 r] rfl rfl (cell_one_new _ _ _) (fun u hu => by rw [List.mem_singleton.1 hu]; rfl) (by unfold maxLen; omega) (by omega) (by simp; omega) ?_)
          intro v3 w3 hown3 hgrow3 _ hob3
          have hO3 := (World.ownsRow.alloc (unhide HO1) (.cells #[.int .i64 r] 3)).kept hgrow3 (.inr (unhide HNE))
          have hne3 : some g3 ≠ v3.ownBlock := by
            rcases hob3 with h1 | h1
            · rw [h1]; exact unhide HNE
            · rw [h1]
              have := ((unhide HO1).lt g3 rfl).2
              intro e
              injection e with e
              omega
          obtain ⟨g4, c4, rfl⟩ := ownsRow_succ hown3
          have hbl3 : Below w'.heap.size w' w3 := ((unhide HBL1).alloc (unhide HBL1).size _).grown hgrow3 (by have := (unhide HBL1).size; simp; omega) (fun k hk => ((unhide HR1).lt k hk).1)
          have hcell : w3.cell? ⟨g3, k2, none⟩ = some (.int .i64 q) := by
            rw [hO3.cellAt k2 (by omega)]
            have hCl : C.length = k2 := by rw [unhide HC, List.length_map]; exact unhide HLQ
            rw [List.getElem?_append_right (by omega), hCl]
            simp
          have HO3 := hide hO3; have HR3 := hide hown3; have HNE3 := hide hne3; have HBL3 := hide hbl3
          clear hO3 hown3 hgrow3 hob3 hne3 hbl3 hck1
          go_wp2_with fail
          go_roundw
          case rel =>
            refine ⟨k2 + 1, by omega, by go_num, by rw [unhide HQT, ← unhide HCt, Int.sub_sub], ⟨?_, ?_, unhide HNE3, ⟨_, _, rfl⟩, ⟨_, _, rfl⟩, unhide HBL3⟩⟩
            · unfold OwnI
              rw [unhide HQS, List.length_append, List.map_append, unhide HLQ, ← unhide HC]
              exact unhide HO3
            · unfold OwnI
              rw [unhide HRS, List.length_append, List.map_append, unhide HLR, ← unhide HD]
              exact unhide HR3
          case measure => simp [intOf]; omega
        · have e : k2 = n := by omega
          subst e
          have hkn := unhide HN
          have hlq : (quoL P ws).take k2 = quoL P ws := List.take_of_length_le (by rw [quoL_len]; omega)
          have hlr : (remL P ws).take k2 = remL P ws := List.take_of_length_le (by rw [remL_len]; omega)
          rw [hlq] at h2 ⊢
          rw [hlr] at h2
          obtain ⟨g1, c1, rfl⟩ := h2.some1
          obtain ⟨g2, c2, rfl⟩ := h2.some2
          have ho := rw_own h2.out (by rw [quoL_len]; omega)
          have hr := rw_own h2.rest (by rw [remL_len]; omega)
          have hgl1 := h2.out.lt g1 rfl
          have hgl2 := h2.rest.lt g2 rfl
          have hne : g1 ≠ g2 := fun e => h2.ne (by rw [e]; rfl)
          have hleft : P - tot (quoL P ws) = (m : Int) := unhide HM
          rw [hleft]
          have HO := hide ho; have HR := hide hr
          clear hkn hlq hlr h2 ho hr hleft H22 hlt2 hk2
          have hq1 : ∀ i, i < k2 → (quoL P ws).getD i 0 = givenOut P ws s 0 i := fun i _ => by unfold givenOut; simp [cnt]
          have hr1 : ∀ i, i < k2 → (remL P ws).getD i 0 = givenRest P ws s 0 i := fun i _ => by unfold givenRest; simp [cnt]
          have hO0 := (unhide HO).fn hq1
          have hR0 := (unhide HR).fn hr1
          have hmk : m ≤ k2 := by
            have hcb := (cents_bd (a := P) (unhide HW).2.2.2).2.1
            have := unhide HM
            have := unhide HN
            rcases hcb with h1 | h1 <;> omega
          have hsl : s.length = k2 := by rw [(unhide HP).length_eq, rmsP_len]; exact (unhide HN).symm
          have HO0 := hide hO0; have HR0 := hide hR0; have HSL := hide hsl
          have Hg : Hid (w'.heap.size ≤ g1 ∧ g1 < wr.heap.size ∧ w'.heap.size ≤ g2 ∧ g2 < wr.heap.size ∧ Below w'.heap.size w' wr) := ⟨hgl1.1, hgl1.2, hgl2.1, hgl2.2, hbel⟩
          clear hq1 hr1 hO0 hR0 HO HR hsl hgl1 hgl2 hbel H2
          go_wp2_with fail
          go_loopw [11] (fun lf wx => ∃ t : Nat, t ≤ m ∧ lf = .int .i64 ((m : Int) - (t : Int)) ∧ Rw wx g1 k2 (givenOut P ws s t) ∧ Rw wx g2 k2 (givenRest P ws s t) ∧ (g1 < wx.heap.size ∧ g2 < wx.heap.size) ∧ Below w'.heap.size w' wx) (fun lf wx => (intOf lf).toNat)
          case atStart => exact ⟨0, Nat.zero_le _, by simp, unhide HO0, unhide HR0, ⟨(unhide Hg).2.1, (unhide Hg).2.2.2.1⟩, (unhide Hg).2.2.2.2⟩
          case round =>
            obtain ⟨t, ht, rfl, hOt, hRt, hszt, hbt⟩ := hrel
            have HOt := hide hOt; have HRt := hide hRt; have HBt := hide hbt
            by_cases hlt3 : t < m
            · obtain ⟨i0', hi0, hx0⟩ := ord_at (unhide HP) (t := t) (by rw [unhide HSL]; omega)
              obtain ⟨hs1, hs2⟩ := hszt
              have hX0 := hide hx0
              have hgt : (0 : Int) < (m : Int) - (t : Int) := by omega
              have hsl := unhide HSL
              have htl : t < s.length := by omega
              have HTL := hide htl
              have hiw := unhide HN
              have HI0 := hide hi0
              clear hx0 hOt hRt hbt hsl htl hi0 hiw
              go_wp2_with fail
              obtain ⟨W0, hW0⟩ : ∃ W0, W0 = wr := ⟨_, rfl⟩
              have HW0 := hide hW0
              clear hW0
              go_loopw [13, 14] (fun bb i wx => ∃ b i' : Nat, 1 ≤ i' ∧ i' ≤ k2 ∧ b < i' ∧ bb = .int .i64 (b : Int) ∧ i = .int .i64 (i' : Int) ∧ (∀ k, k < i' → givenRest P ws s t k ≤ givenRest P ws s t b) ∧ (∀ k, k < b → givenRest P ws s t k < givenRest P ws s t b) ∧ Below W0.heap.size W0 wx) (fun bb i wx => k2 - (intOf i).toNat)
              case atStart => exact ⟨0, 1, by omega, hn1, by omega, rfl, rfl, (le_one _), (fun k hk => by omega), (unhide HW0).symm ▸ Below.refl _ _⟩
              case round =>
                obtain ⟨b, i', h1, h2, h3, rfl, rfl, hle, hlt, hbx⟩ := hrel
                have HLE := hide hle; have HLT := hide hlt; have HBX := hide hbx
                have hb0' : (0 : Int) ≤ (b : Int) := Int.natCast_nonneg _
                have hb1' : (b : Int) < (k2 : Int) := by omega
                have hi0'' : (0 : Int) ≤ (i' : Int) := Int.natCast_nonneg _
                clear hle hlt hbx
                have hRx := (by rw [unhide HW0]; exact unhide HRt : Rw W0 g2 k2 (givenRest P ws s t)).keep (by rw [unhide HW0]; exact hs2) (unhide HBX)
                have hOx := (by rw [unhide HW0]; exact unhide HOt : Rw W0 g1 k2 (givenOut P ws s t)).keep (by rw [unhide HW0]; exact hs1) (unhide HBX)
                by_cases hin : i' < k2
                · have hc1 := hRx.cell i' hin
                  have hc2 := hRx.cell b (by omega)
                  have hbi := (rest_bd (a := P) (s := s) (t := t) (unhide HW).2.2.2 (show i' < ws.length from (unhide HN) ▸ hin))
                  have HRI := hide (show givenRest P ws s t i' = givenRest P ws s t i' from rfl)
                  obtain ⟨x, hx⟩ : ∃ x, x = givenRest P ws s t i' := ⟨_, rfl⟩
                  obtain ⟨y, hy⟩ : ∃ y, y = givenRest P ws s t b := ⟨_, rfl⟩
                  rw [← hx] at hc1
                  rw [← hy] at hc2
                  have HXX := hide hx; have HYY := hide hy
                  clear hx hy hRx hOx hbi HRI
                  by_cases hxy : y < x
                  · go_wp2_with fail
                    go_quiet (fail)
                    go_wp2_with fail
                    go_roundw
                    case rel =>
                      refine ⟨i', i' + 1, by omega, by omega, by omega, rfl, by go_num, fun k hk => ?_, fun k hk => ?_, belowDrewN _ (unhide HBX)⟩
                      · rw [← unhide HXX]
                        by_cases e : k = i'
                        · rw [e, ← unhide HXX]; exact Int.le_refl _
                        · have := unhide HLE k (by omega); rw [← unhide HYY] at this; omega
                      · rw [← unhide HXX]
                        have := unhide HLE k hk; rw [← unhide HYY] at this; omega
                    case measure => simp [intOf]; omega
                  · go_wp2_with fail
                    go_quiet (fail)
                    go_wp2_with fail
                    go_roundw
                    case rel =>
                      refine ⟨b, i' + 1, by omega, by omega, by omega, rfl, by go_num, fun k hk => ?_, unhide HLT, belowDrewN _ (unhide HBX)⟩
                      by_cases e : k = i'
                      · rw [e, ← unhide HXX, ← unhide HYY]; omega
                      · exact unhide HLE k (by omega)
                    case measure => simp [intOf]; omega
                · have e : i' = k2 := by omega
                  subst e
                  have hnl := unhide HN
                  have hbI : b = i0' := best_next (unhide HW).2.2.2 (unhide HP) (unhide HBF) (unhide HTL) (unhide HI0) (unhide hX0) (by omega) (fun k hk => unhide HLE k (by omega)) (unhide HLT)
                  subst hbI
                  have hc1 := hOx.cell b (by omega)
                  have hf1 := hOx.free b
                  have hc2 := hRx.cell b (by omega)
                  have hf2 := hRx.free b
                  have hqb := quo_bds hPb.1 (unhide HW) (show b < ws.length by omega)
                  have hcb := cnt_le b (s.take t)
                  have hml : (s.take t).length ≤ 256 := by rw [List.length_take]; omega
                  obtain ⟨V, hV⟩ : ∃ V, V = givenOut P ws s t b := ⟨_, rfl⟩
                  have hVb : 0 ≤ V ∧ V ≤ 1125899906842880 := by rw [hV]; unfold givenOut; omega
                  rw [← hV] at hc1
                  have HV := hide hV
                  have hwv : IntKind.i64.wrap (V + 1) = V + 1 := IntWalk.i64_in _ (by omega)
                  have hwl : IntKind.i64.wrap ((m : Int) - (t : Int) - 1) = (m : Int) - (t : Int) - 1 := IntWalk.i64_in _ (by omega)
                  have hne2 : ¬ g2 = g1 := fun e => hne e.symm
                  have hsx := (unhide HBX).size
                  have hW0s : W0.heap.size = W0.heap.size := rfl
                  have hg1x : g1 < wr.heap.size := by rw [← unhide HW0] at hs1; omega
                  have hg2x : g2 < wr.heap.size := by rw [← unhide HW0] at hs2; omega
                  have HOX := hide hOx; have HRX := hide hRx
                  have hbk : (b : Int) < (i' : Int) := by omega
                  clear hqb hcb hml hV hnl hOx hRx hW0s
                  generalize givenRest P ws s t b = y at hc2
                  go_wp2_with fail
                  go_roundw
                  case rel =>
                    have ho1 : Rw ((wr.setCell ⟨g1, b, none⟩ (.int .i64 (V + 1))).setCell ⟨g2, b, none⟩ (.int .i64 (-1))) g1 i' (givenOut P ws s (t + 1)) := by
                      refine (((unhide HOX).set (j := b) (by omega) (V + 1)).block (Below.heap_setCell _ _ _ _ (by show g1 ≠ g2; exact hne))).fn fun q hq => ?_
                      rw [out_step (unhide HP) (unhide HTL) (unhide hX0)]
                      unfold upd
                      by_cases e : q = b
                      · rw [if_pos e, if_pos e, unhide HV]
                      · rw [if_neg e, if_neg e]
                    have hr1 : Rw ((wr.setCell ⟨g1, b, none⟩ (.int .i64 (V + 1))).setCell ⟨g2, b, none⟩ (.int .i64 (-1))) g2 i' (givenRest P ws s (t + 1)) := by
                      refine (((unhide HRX).block (w' := wr.setCell ⟨g1, b, none⟩ (.int .i64 (V + 1))) (Below.heap_setCell _ _ _ _ (by show g2 ≠ g1; exact hne2))).set (j := b) (by omega) (-1)).fn fun q hq => ?_
                      rw [rest_step (unhide HP) (unhide HTL) (unhide hX0)]
                      rfl
                    have hbw : Below w'.heap.size w' wr := (unhide HBt).trans (by have := unhide HBX; rw [unhide HW0] at this; exact this.mono (unhide HBt).size)
                    refine ⟨t + 1, by omega, ?_, ho1, hr1, ⟨by simpa using hg1x, by simpa using hg2x⟩, (hbw.setCell (p := ⟨g1, b, none⟩) (unhide Hg).1 _).setCell (p := ⟨g2, b, none⟩) (unhide Hg).2.2.1 _⟩
                    show Value.int .i64 _ = _
                    rw [Int.natCast_add, show (m : Int) - ((t : Int) + ((1 : Nat) : Int)) = (m : Int) - (t : Int) - 1 by omega]
                  case measure => simp [intOf]; omega
            · have e : t = m := by omega
              subst e
              obtain ⟨hs1, hs2⟩ := hszt
              have hX := unhide HX
              obtain ⟨hxl, hxa, hx64⟩ := splitV_at' h (unhide HW)
              rw [← hX, ← unhide HPA] at hxa
              rw [← hX] at hxl hx64
              have hkn := unhide HN
              have hO := hOt.fn fun i hi => out_end (unhide HP) (unhide HBF) (unhide HM) (show i < ws.length by omega)
              have HO := hide hO
              have HXL : Hid (X.length = k2) := hxl.trans hkn.symm
              have HXA := hide hxa
              have HX64 := hide hx64
              clear hX hxl hxa hx64 hkn hO hOt hRt hbt
              by_cases hneg : a < 0
              · have hsg : sgn a = -1 := by unfold sgn; rw [if_pos hneg]
                have HSG := hide hsg
                clear hsg
                go_wp2_with fail
                go_loopw [15] (fun i wx => ∃ j : Nat, j ≤ k2 ∧ i = .int .i64 (j : Int) ∧ Rw wx g1 k2 (fun i => if i < j then -partAt P ws i else partAt P ws i) ∧ Below w'.heap.size w' wx ∧ g1 < wx.heap.size) (fun i wx => k2 - (intOf i).toNat)
                case atStart => exact ⟨0, Nat.zero_le _, rfl, (unhide HO).fn fun i _ => by simp, unhide HBt, hs1⟩
                case round =>
                  obtain ⟨j, hj, rfl, hRj, hbj, hgj⟩ := hrel
                  have HRJ := hide hRj; have HBJ := hide hbj
                  by_cases hjl : j < k2
                  · have hc1 := hRj.cell j hjl
                    have hf1 := hRj.free j
                    rw [if_neg (by omega)] at hc1
                    have hpb := part_le hPb.1 (unhide HW) (show j < ws.length from (unhide HN) ▸ hjl)
                    generalize hpj : partAt P ws j = p at hc1 hpb
                    have HPJ := hide hpj
                    have hwp : IntKind.i64.wrap (-p) = -p := IntWalk.i64_in _ (by omega)
                    clear hRj hbj hpj
                    go_wp2_with fail
                    go_roundw
                    case rel =>
                      refine ⟨j + 1, by omega, by go_num, ?_, (unhide HBJ).setCell (p := ⟨g1, j, none⟩) (unhide Hg).1 _, by simpa using hgj⟩
                      refine ((unhide HRJ).set hjl (-p)).fn fun q hq => ?_
                      unfold upd
                      by_cases e : q = j
                      · subst e
                        rw [if_pos rfl, if_pos (by omega), unhide HPJ]
                      · rw [if_neg e]
                        dsimp only
                        by_cases h1 : q < j
                        · rw [if_pos h1, if_pos (by omega)]
                        · rw [if_neg h1, if_neg (by omega)]
                    case measure => simp [intOf]; omega
                  · have e : j = k2 := by omega
                    subst e
                    have hIt := hRj.it (unhide HXL) (fun i hi => by
                      rw [if_pos hi, unhide HXA i ((unhide HN) ▸ hi), unhide HSG]
                      omega) (unhide HX64)
                    have HIT := hide hIt
                    clear hRj hbj hIt
                    go_wp2_with fail
                    go_ret2
                    exact ⟨_, _, rfl, unhide HIT, unhide HBJ⟩
              · have hsg : sgn a = 1 := by unfold sgn; rw [if_neg hneg]
                have hIt := (unhide HO).it (unhide HXL) (fun i hi => by
                  rw [unhide HXA i ((unhide HN) ▸ hi), hsg]
                  omega) (unhide HX64)
                have HIT := hide hIt
                clear hsg hIt
                go_wp2_with fail
                go_loopw [15] (fun i wx => i = .int .i64 0 ∧ It wx (some ⟨g1, 0, none⟩) X ∧ Below w'.heap.size w' wx) (fun i wx => 0)
                case atStart => exact ⟨rfl, unhide HIT, unhide HBt⟩
                case round =>
                  obtain ⟨rfl, hi1, hb1⟩ := hrel
                  have HI1 := hide hi1; have HB1 := hide hb1
                  clear hi1 hb1
                  go_wp2_with fail
                  go_ret2
                  exact ⟨_, _, rfl, unhide HI1, unhide HB1⟩
theorem rsplit_any (A : Option Addr) (c : Nat) (a : Int) (ws : List Int) (w : World) (hI : It w A ws) (hl : ws.length ≤ 1000) :
    Calls Tryd.prog 16 #[.int .i64 a, .slice A ws.length c] w (RSplitIs a ws w) := by
  by_cases h : Am a
  · by_cases hW : Wok ws
    · obtain ⟨s, hp, hb⟩ := exists_sorted (rms_nodup (remL (absI a) ws) 0).1
      have hcb := (cents_bd (a := absI a) hW.2.2.2).1
      obtain ⟨m, hm⟩ : ∃ m : Nat, centsP (absI a) ws = (m : Int) := ⟨(centsP (absI a) ws).toNat, by omega⟩
      refine (rsplit_ok0 A c a ws _ s m w h hI hW rfl hp hb hm).mono ?_
      rintro e w' ⟨A', c', rfl, hI', hB⟩
      have e2 : splitE a ws = 0 := by unfold splitE; rw [if_pos h, if_pos hW]
      unfold RSplitIs
      rw [e2, (splitV_at' h hW).1]
      exact ⟨A', c', rfl, hI', hB⟩
    · exact rsplit_bad A c a ws w h hI hW hl
  · exact rsplit_no A c a ws w h
end Go.Proofs.YthbdhlcimgiemaaDoor
