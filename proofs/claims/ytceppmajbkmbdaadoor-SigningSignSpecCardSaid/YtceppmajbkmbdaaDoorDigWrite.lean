/- A contract over the digest's program: write, for all bytes. -/
import Derived.Test.YtceppmajbkmbdaaDoorDigAbs
import Derived.Laws.CopyOwn
namespace Go.Proofs.YtceppmajbkmbdaaDoor
set_option linter.unusedSimpArgs false
set_option linter.unusedVariables false
open Go.RowKit

/-- bytes behind an address, in another block than nb -/
structure Bs (w : World) (nb : Nat) (A : Option Addr) (l : List Int) : Prop where
  byt : ∀ c ∈ l, Byt c
  at_ : l ≠ [] → ∃ b o, A = some ⟨b, o, none⟩ ∧ b ≠ nb ∧ ∀ j, j < l.length → w.cell? ⟨b, o + j, none⟩ = some (.int .u8 (l.getD j 0))
theorem lt_of_cell {w : World} {a : Addr} {v : Value} (h : w.cell? a = some v) : a.block < w.heap.size := World.block_lt_of_cell? w a h
theorem Bs.grown {w w' : World} {nb : Nat} {A : Option Addr} {l : List Int} (h : Bs w nb A l) (hg : w.grownBy w' (some nb)) : Bs w' nb A l := by
  refine ⟨h.byt, fun hl => ?_⟩
  obtain ⟨b, o, e, hne, hc⟩ := h.at_ hl
  refine ⟨b, o, e, hne, fun j hj => ?_⟩
  have hj' := hc j hj
  have hlt := lt_of_cell hj'
  rw [cell_block (hg.block b hlt (fun e => by injection e with e; exact hne e))]
  exact hj'
theorem Bs.keep {w w' : World} {nb : Nat} {A : Option Addr} {l : List Int} (h : Bs w nb A l) (hg : Below w.heap.size w w') : Bs w' nb A l := h.grown (belowGrown nb hg)
theorem Bs.drop {w : World} {nb : Nat} {b o : Nat} {l : List Int} (h : Bs w nb (some ⟨b, o, none⟩) l) (k : Nat) : Bs w nb (some ⟨b, o + k, none⟩) (l.drop k) := by
  refine ⟨fun c hc => h.byt c (List.mem_of_mem_drop hc), fun hl => ?_⟩
  have hne : l ≠ [] := fun e => hl (by simp [e])
  obtain ⟨b', o', e, hnb, hc⟩ := h.at_ hne
  injection e with e
  injection e with e1 e2
  subst e1 e2
  refine ⟨b, o + k, rfl, hnb, fun j hj => ?_⟩
  simp only [List.length_drop] at hj
  rw [Nat.add_assoc, hc (k + j) (by omega)]
  simp [List.getD, List.getElem?_drop]
theorem Bs.cut {w : World} {nb : Nat} {b o c : Nat} {l : List Int} (h : Bs w nb (some ⟨b, o, none⟩) l) (k : Nat) (hc : l.length ≤ c) : Bs w nb (some (if c = k then ⟨b, o, none⟩ else ⟨b, o + k, none⟩)) (l.drop k) := by
  by_cases e : c = k
  · rw [List.drop_eq_nil_of_le (by omega)]
    exact ⟨fun c hc => (List.not_mem_nil hc).elim, fun h => absurd rfl h⟩
  · rw [if_neg e]; exact h.drop k
theorem Bs.over {w : World} {nb : Nat} {A : Option Addr} {l : List Int} {k : Nat} (h : l.length ≤ k) : Bs w nb A (l.drop k) := by
  rw [List.drop_eq_nil_of_le h]
  exact ⟨fun c hc => (List.not_mem_nil hc).elim, fun h => absurd rfl h⟩
theorem Bs.nil {w : World} {nb : Nat} {A : Option Addr} : Bs w nb A [] := ⟨fun c hc => (List.not_mem_nil hc).elim, fun h => absurd rfl h⟩

/-- the sponge: its state and what lies in the block -/
def SpQ (w : World) (b : Nat) (s : (Nat → Int) × List Int) : Prop := s.2.length < 136 ∧ ∃ B, B.take s.2.length = s.2 ∧ SgAt w b s.1 B s.2.length
theorem SpQ.keep {w w' : World} {b : Nat} {s : (Nat → Int) × List Int} (h : SpQ w b s) (hb : Below w.heap.size w w') : SpQ w' b s := by
  obtain ⟨h1, B, h2, h3⟩ := h
  exact ⟨h1, B, h2, h3.keep hb⟩

theorem lnCells_splice (f : Nat → Int) (B cs : List Int) (n : Int) (q : Nat) (hq : q + cs.length ≤ B.length) :
    ((lnCells 25 f (sgRest B n)).toList.take (25 + q) ++ (cs.map (Value.int .u8) ++ (lnCells 25 f (sgRest B n)).toList.drop (25 + q + (cs.map (Value.int .u8)).length))).toArray = lnCells 25 f (sgRest (B.take q ++ (cs ++ B.drop (q + cs.length))) n) := by
  unfold lnCells sgRest
  congr 1
  have hL : ((List.range 25).map fun j => Value.int .u64 (f j)).length = 25 := by simp
  generalize ((List.range 25).map fun j => Value.int .u64 (f j)) = L at hL ⊢
  simp only [List.length_map, List.map_append, List.map_take, List.map_drop]
  rw [List.take_append, List.take_of_length_le (by omega), hL, show 25 + q - 25 = q by omega, List.take_append_of_le_length (by simp; omega),
    List.drop_append, List.drop_eq_nil_of_le (by omega), hL, show 25 + q + cs.length - 25 = q + cs.length by omega, List.nil_append, List.drop_append_of_le_length (by simp; omega)]
  simp only [List.append_assoc]
theorem SgAt.splice {w : World} {b : Nat} {f : Nat → Int} {B : List Int} {n : Int} (h : SgAt w b f B n) (q : Nat) (cs : List Int) (hq : q + cs.length ≤ 136) (hcs : ∀ c ∈ cs, Byt c) :
    SgAt (w.setRow b ((lnCells 25 f (sgRest B n)).toList.take (25 + q) ++ (cs.map (Value.int .u8) ++ (lnCells 25 f (sgRest B n)).toList.drop (25 + q + (cs.map (Value.int .u8)).length))).toArray) b f (B.take q ++ (cs ++ B.drop (q + cs.length))) n := by
  refine ⟨?_, ?_, ?_⟩
  · have := h.len
    simp
    omega
  · intro c hc
    rcases List.mem_append.1 hc with h' | h'
    · exact h.byt c (List.mem_of_mem_take h')
    · rcases List.mem_append.1 h' with h' | h'
      · exact hcs c h'
      · exact h.byt c (List.mem_of_mem_drop h')
  · rw [lnCells_splice f B cs n q (by rw [h.len]; exact hq)]
    exact setRow_heap w b _ _ _ _ h.at_
theorem runS_full (f : Nat → Int) (q r : List Int) (k : Nat) (h1 : q.length + k ≤ 136) (h2 : 0 < k) (h3 : k ≤ r.length) (h : q.length + k = 136) : runS (f, q) r = runS (absF f (q ++ r.take k), []) (r.drop k) := by
  have htl : (r.take k).length = k := by simp; omega
  conv => lhs; rw [← List.take_append_drop k r, runS_append, runS_chunk (r.take k) (f, q) (fun e => by rw [e] at htl; simp at htl; omega) (by rw [htl]; exact h1), if_pos (by rw [htl]; exact h)]
theorem runS_part (f : Nat → Int) (q r : List Int) (k : Nat) (h1 : q.length + k ≤ 136) (h2 : 0 < k) (h3 : k ≤ r.length) (h : ¬ q.length + k = 136) : runS (f, q) r = runS (f, q ++ r.take k) (r.drop k) := by
  have htl : (r.take k).length = k := by simp; omega
  conv => lhs; rw [← List.take_append_drop k r, runS_append, runS_chunk (r.take k) (f, q) (fun e => by rw [e] at htl; simp at htl; omega) (by rw [htl]; exact h1), if_neg (by rw [htl]; exact h)]
theorem grownSetRow {w : World} (b : Nat) (cs : Array Value) : w.grownBy (w.setRow b cs) (some b) := by
  refine ⟨rfl, rfl, rfl, by simp [World.setRow], fun k hk hne => setRow_other w b k cs (fun e => hne (by rw [e]))⟩

set_option maxRecDepth 100000 in
set_option maxHeartbeats 4000000 in
theorem write_any (w : World) (b : Nat) (s : (Nat → Int) × List Int) (A : Option Addr) (c : Nat) (l : List Int) (hA : Bs w b A l) (h : SpQ w b s) (hT : DTab w) (hb : gTop ≤ b) (hc : l.length ≤ c) :
    Calls Tryd.prog 88 #[.pointer (some ⟨b, 0, none⟩), .slice A l.length c] w fun e w' => e = .returned (.tuple #[]) ∧ SpQ w' b (runS s l) ∧ w.grownBy w' (some b) := by
  have HH := hide h
  have HT := hide hT
  have HA := hide hA
  have HC := hide hc
  obtain ⟨m, hm⟩ : ∃ m, m = l.length := ⟨_, rfl⟩
  have HM := hide hm
  rw [← hm]
  clear h hT hA hm hc
  go_enter Tryd.func88, Tryd.ntmps88
  go_wp2_with fail
  go_loopg [1] m (fun g y wx => ∃ (s' : (Nat → Int) × List Int) (r : List Int) (A' : Option Addr) (c' : Nat), y = .slice A' r.length c' ∧ r.length ≤ g ∧ r.length ≤ c' ∧ Bs wx b A' r ∧ SpQ wx b s' ∧ runS s' r = runS s l ∧ w.grownBy wx (some b))
  case atStart => exact ⟨s, l, A, c, by rw [unhide HM], by rw [unhide HM]; exact Nat.le_refl _, unhide HC, unhide HA, unhide HH, rfl, World.grownBy.refl _ _⟩
  case round =>
    obtain ⟨s', r, A', c', rfl, hrg, hrc, hA', hS, hR, hg⟩ := hrel
    have HG := hide hg
    have HS := hide hS
    have HR := hide hR
    have HA' := hide hA'
    clear hg hR HA HH
    by_cases hz : r = []
    · subst hz
      clear hS hA'
      go_wp2_with fail
      exact bodyPost_end (v := .tuple #[]) (by simp [results, Tryd.results88, go_sem]) rfl ⟨rfl, (unhide HR) ▸ unhide HS, unhide HG⟩
    · obtain ⟨sb, so, rfl, hsb, hsc⟩ := hA'.at_ hz
      obtain ⟨f, q⟩ := s'
      obtain ⟨hq, B, hBq, hS⟩ := hS
      simp only at hq hBq hS
      have hpos : 0 < r.length := List.length_pos_iff.2 hz
      obtain ⟨rl, hrl⟩ : ∃ rl, rl = r.length := ⟨_, rfl⟩
      obtain ⟨ql, hql⟩ : ∃ ql, ql = q.length := ⟨_, rfl⟩
      obtain ⟨k, hk⟩ : ∃ k, k = Nat.min rl (136 - ql) := ⟨_, rfl⟩
      obtain ⟨W, hW⟩ : ∃ W, W = wr.drewN 1 := ⟨_, rfl⟩
      have HW : Hid (W = wr.drewN 1) := hW
      rw [← hql] at hq hBq hS
      rw [← hrl] at hpos hrg hrc hsc ⊢
      have hSW := hS.keep (below_named HW)
      have hB0 := hS.len
      have hgt : (0 : Int) < (rl : Int) := by omega
      have cf := hSW.fill
      have hk1 : 0 < k := by rw [hk]; simp only [Nat.min_def]; split <;> omega
      have hk2 : k ≤ rl := by rw [hk]; exact Nat.min_le_left _ _
      have hk3 : ql + k ≤ 136 := by have : k ≤ 136 - ql := by { rw [hk]; exact Nat.min_le_right _ _ }; omega
      have b1 : (ql : Int) ≤ 136 := by omega
      have b2 : (0 : Int) ≤ (ql : Int) := Int.natCast_nonneg _
      have b3 : ¬ (136 = ql) := by omega
      have hcs : ∀ j v, ((r.take k).map (Value.int .u8))[j]? = some v → W.cell? ((⟨sb, so, none⟩ : Addr).add j) = some v := by
        intro j v hv
        have hj : j < k := by
          have := (List.getElem?_eq_some_iff.1 hv).1
          simp at this
          omega
        have := hsc j (by omega)
        rw [show (⟨sb, so, none⟩ : Addr).add j = ⟨sb, so + j, none⟩ by unfold Addr.add; split <;> simp_all, hW]
        show wr.cell? _ = _
        rw [this, ← hv, List.getElem?_map, List.getElem?_take, if_pos hj, List.getD_eq_getElem?_getD, List.getElem?_eq_getElem (by omega)]
        rfl
      have hcl : ((r.take k).map (Value.int .u8)).length = k := by simp; omega
      have HSW := hide hSW
      have HCS := hide hcs
      have HCL := hide hcl
      have HK : Hid (k = Nat.min rl (136 - ql) ∧ 0 < k ∧ k ≤ rl ∧ ql + k ≤ 136 ∧ rl = r.length ∧ ql = q.length ∧ rl ≤ c' ∧ rl ≤ gk ∧ ql < 136 ∧ B.take ql = q) := ⟨hk, hk1, hk2, hk3, hrl, hql, hrc, hrg, hq, hBq⟩
      clear hSW hcs hcl hS hk hrl hql hrc hsc hBq hW hz hk1 hk2 hk3 hpos hrg
      go_wp2_with fail
      refine still_drew 9 W HW (by kernel_rfl) (by kernel_rfl) ?_
      simp only [List.take_succ_cons, List.take_zero, List.drop_succ_cons, List.drop_zero]
      repeat still_step
      refine wpStill_nil ?_
      refine wpList_copy_own rfl (.tmp 15) (.tmp 16) 22 22 rfl 5 Tryd.underlying22 (by kernel_rfl) b (25 + ql) (136 - ql) (136 - ql) ⟨sb, so, none⟩ rl c' rfl rfl (lnCells 25 f (sgRest B ql)) 108 (unhide HSW).at_ ((r.take k).map (Value.int .u8)) ((unhide HCL).trans (unhide HK).1) (unhide HCS) ?_ ?_ ?_
      · rw [unhide HCL]
        have := (unhide HK).2.2.2.1
        have := (unhide HSW).len
        simp only [lnCells, sgRest, List.size_toArray, List.length_append, List.length_map, List.length_range, List.length_cons, List.length_nil]
        omega
      · intro v hv
        obtain ⟨x, _, rfl⟩ := List.mem_map.1 hv
        rfl
      obtain ⟨W2, hW2⟩ : ∃ W2, W2 = W.setRow b ((lnCells 25 f (sgRest B ql)).toList.take (25 + ql) ++ ((r.take k).map (Value.int .u8) ++ (lnCells 25 f (sgRest B ql)).toList.drop (25 + ql + ((r.take k).map (Value.int .u8)).length))).toArray := ⟨_, rfl⟩
      obtain ⟨K1, K2, K3, K4, K5, K6, K7, K8, K9, K10⟩ := unhide HK
      have htl : (r.take k).length = k := by simp; omega
      have hS2 := (unhide HSW).splice ql (r.take k) (by rw [htl]; exact K4) (fun c hc => (unhide HA').byt c (List.mem_of_mem_take hc))
      rw [← hW2, htl, K10] at hS2
      have hg2 : wr.grownBy W2 (some b) := hW2 ▸ World.grownBy.trans (belowGrown b (below_named HW)) (grownSetRow b _)
      have HS2 := hide hS2
      have HG2 := hide ((unhide HG).trans hg2)
      have hA2 := (unhide HA').grown hg2
      have HA2 := hide hA2
      have cf2 := hS2.fill
      have qf2 := hS2.free 161
      rw [← hW2, unhide HCL]
      have i1 : (k : Int) ≤ (rl : Int) := by omega
      have i2 : (0 : Int) ≤ (k : Int) := Int.natCast_nonneg _
      have i3 : (rl : Int) ≤ (c' : Int) := by omega
      obtain ⟨q1, hq1⟩ : ∃ q1, q1 = ql + k := ⟨_, rfl⟩
      have w1 : IntKind.i64.wrap ((ql : Int) + (k : Int)) = (q1 : Int) := (IntWalk.i64_in _ (by omega)).trans (by omega)
      have HQ1 := hide hq1
      clear hS2 hg2 hA2 hW2 HSW HCS HCL HS HG HA' K1 K2 K3 K4 K5 K6 K7 K8 K9 K10 htl cf hq1
      have HCC : Hid (rl ≤ c' ∧ rl ≤ gk ∧ 0 < rl) := by obtain ⟨K1, K2, K3, K4, K5, K6, K7, K8, K9, K10⟩ := unhide HK; exact ⟨K7, K8, by omega⟩
      obtain ⟨g, rfl⟩ : ∃ g, gk = g + 1 := ⟨gk - 1, by have := unhide HCC; omega⟩
      simp only [goInt]
      by_cases hck : c' = k
      · by_cases hf : q1 = 136
        · have i4 : (q1 : Int) = 136 := by omega
          go_wp2_with fail
          refine (absorb_any _ b f _ _ ((unhide HS2).setFill 136) ((unhide HT).grown hb (grownSet (unhide HG2) _ _)) hb).mono ?_; rintro e w3 ⟨rfl, hS3, hg3⟩
          have HS3 := hide hS3
          have hg4 := (grownSet (unhide HG2) 161 (Value.int .i64 136)).trans hg3
          have HG3 := hide hg4
          have hA3 := ((unhide HA2).grown (grownSet (World.grownBy.refl _ _) 161 (Value.int .i64 136))).grown hg3
          have HA3 := hide hA3
          clear hS3 hg3 hg4 hA3 cf2 qf2 HS2 HG2 HA2
          go_wp2_with fail
          go_roundg g
          case measure => have := unhide HCC; omega
          case rel =>
            obtain ⟨K1, K2, K3, K4, rfl, rfl, K7, K8, K9, K10⟩ := unhide HK
            have hQ1 := unhide HQ1
            have hS3 := unhide HS3
            have hBn : B.drop (q.length + k) = [] := List.drop_eq_nil_of_le (by rw [hB0]; omega)
            rw [hBn, List.append_nil] at hS3
            refine ⟨(absF f (q ++ r.take k), []), r.drop k, _, 0, by rw [List.length_drop], by rw [List.length_drop]; omega, by rw [List.length_drop]; omega, Bs.over (by omega), ⟨by simp, q ++ r.take k, rfl, hS3⟩, ?_, unhide HG3⟩
            rw [← unhide HR]
            exact (runS_full f q r k (by omega) K2 K3 (by omega)).symm
        · have i4 : ¬ (q1 : Int) = 136 := by omega
          go_wp2_with fail
          go_roundg g
          case measure => have := unhide HCC; omega
          case rel =>
            obtain ⟨K1, K2, K3, K4, rfl, rfl, K7, K8, K9, K10⟩ := unhide HK
            have hQ1 := unhide HQ1
            have hS3 := (unhide HS2).setFill (q1 : Int)
            have htl : (r.take k).length = k := by simp; omega
            refine ⟨(f, q ++ r.take k), r.drop k, _, 0, by rw [List.length_drop], by rw [List.length_drop]; omega, by rw [List.length_drop]; omega, Bs.over (by omega), ⟨by simp; omega, q ++ (r.take k ++ B.drop (q.length + k)), ?_, ?_⟩, ?_, grownSet (unhide HG2) _ _⟩
            · rw [← List.append_assoc, List.take_left]
            · have e : ((q ++ r.take k).length : Int) = (q1 : Int) := by rw [List.length_append, htl]; omega
              show SgAt _ b f _ ((q ++ r.take k).length : Int)
              rw [e]; exact hS3
            · rw [← unhide HR]
              exact (runS_part f q r k (by omega) K2 K3 (by omega)).symm
      · by_cases hf : q1 = 136
        · have i4 : (q1 : Int) = 136 := by omega
          go_wp2_with fail
          refine (absorb_any _ b f _ _ ((unhide HS2).setFill 136) ((unhide HT).grown hb (grownSet (unhide HG2) _ _)) hb).mono ?_; rintro e w3 ⟨rfl, hS3, hg3⟩
          have HS3 := hide hS3
          have hg4 := (grownSet (unhide HG2) 161 (Value.int .i64 136)).trans hg3
          have HG3 := hide hg4
          have hA3 := ((unhide HA2).grown (grownSet (World.grownBy.refl _ _) 161 (Value.int .i64 136))).grown hg3
          have HA3 := hide hA3
          clear hS3 hg3 hg4 hA3 cf2 qf2 HS2 HG2 HA2
          go_wp2_with fail
          go_roundg g
          case measure => have := unhide HCC; omega
          case rel =>
            obtain ⟨K1, K2, K3, K4, rfl, rfl, K7, K8, K9, K10⟩ := unhide HK
            have hQ1 := unhide HQ1
            have hS3 := unhide HS3
            have hBn : B.drop (q.length + k) = [] := List.drop_eq_nil_of_le (by rw [hB0]; omega)
            rw [hBn, List.append_nil] at hS3
            refine ⟨(absF f (q ++ r.take k), []), r.drop k, _, c' - k, by rw [List.length_drop], by rw [List.length_drop]; omega, by rw [List.length_drop]; omega, (unhide HA3).drop k, ⟨by simp, q ++ r.take k, rfl, hS3⟩, ?_, unhide HG3⟩
            rw [← unhide HR]
            exact (runS_full f q r k (by omega) K2 K3 (by omega)).symm
        · have i4 : ¬ (q1 : Int) = 136 := by omega
          go_wp2_with fail
          go_roundg g
          case measure => have := unhide HCC; omega
          case rel =>
            obtain ⟨K1, K2, K3, K4, rfl, rfl, K7, K8, K9, K10⟩ := unhide HK
            have hQ1 := unhide HQ1
            have hS3 := (unhide HS2).setFill (q1 : Int)
            have htl : (r.take k).length = k := by simp; omega
            refine ⟨(f, q ++ r.take k), r.drop k, _, c' - k, by rw [List.length_drop], by rw [List.length_drop]; omega, by rw [List.length_drop]; omega, ((unhide HA2).grown (grownSet (World.grownBy.refl _ _) 161 (Value.int .i64 (q1 : Int)))).drop k, ⟨by simp; omega, q ++ (r.take k ++ B.drop (q.length + k)), ?_, ?_⟩, ?_, grownSet (unhide HG2) _ _⟩
            · rw [← List.append_assoc, List.take_left]
            · have e : ((q ++ r.take k).length : Int) = (q1 : Int) := by rw [List.length_append, htl]; omega
              show SgAt _ b f _ ((q ++ r.take k).length : Int)
              rw [e]; exact hS3
            · rw [← unhide HR]
              exact (runS_part f q r k (by omega) K2 K3 (by omega)).symm
end Go.Proofs.YtceppmajbkmbdaaDoor
