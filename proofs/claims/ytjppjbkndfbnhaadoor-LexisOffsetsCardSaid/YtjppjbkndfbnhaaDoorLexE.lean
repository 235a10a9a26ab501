/- Contracts over the program of lexis: the scanner: advance and skip. -/
import Derived.Test.YtjppjbkndfbnhaaDoorLexD
import Derived.RegionTactic
import Derived.BigRegion
import Derived.StillTailTactics
namespace Go.Proofs.YtjppjbkndfbnhaaDoor
set_option linter.unusedSimpArgs false
set_option linter.unusedVariables false
open Go.RowKit

theorem quiet_add_same {P : Program} {f : FuncId} {args : Array Value} {w : World} {a n : Nat} {v : Value}
    (h : Calls P f args (w.drewN (a + n)) fun e w' => e = .returned v ∧ w' = w.drewN (a + n)) :
    Calls P f args (w.drewN (a + n)) fun e w'' => e = .returned v ∧ ∃ m, w'' = w.drewN (a + m) :=
  h.mono fun _ _ ⟨he, hm⟩ => ⟨he, n, hm⟩
theorem still_tail {P : Program} {id : Nat} {Q : Exit → Act → World → Prop} {a : Act} {w : World} {l : List Oper} (n : Nat) (hm : P.follows .mixedOrders = true) (hB : Region.lexTailB .any l.toArray n = true)
    (h : wpStill P l.toArray w.drew (fun a' => wpList P l.toArray Q (l.drop n) a' w.drew) (l.take n) a) : (Code.region id l.toArray true).wp P Q a w := wp_region_still_tail n hm hB h
/-- all blocks but one lie as they lay -/
structure But (b : Nat) (w w' : World) : Prop where
  low : Below b w w'
  blk : ∀ i, i < w.heap.size → i ≠ b → w'.heap[i]? = w.heap[i]?
theorem But.refl (b : Nat) (w : World) : But b w w := ⟨Below.refl _ _, fun _ _ _ => rfl⟩
theorem But.trans {b : Nat} {w w1 w2 : World} (h1 : But b w w1) (h2 : But b w1 w2) : But b w w2 :=
  ⟨h1.low.trans h2.low, fun i hi hb => (h2.blk i (Nat.lt_of_lt_of_le hi h1.low.size) hb).trans (h1.blk i hi hb)⟩
theorem But.of {b : Nat} {w w1 : World} (h : Below w.heap.size w w1) (hb : b < w.heap.size) : But b w w1 :=
  ⟨h.mono (Nat.le_of_lt hb), fun i hi _ => h.block i hi⟩
theorem But.drewN {b : Nat} {w w1 : World} (h : But b w w1) (n : Nat) : But b w (w1.drewN n) := ⟨belowDrewN n h.low, h.blk⟩
theorem But.setCell {b : Nat} {w w1 : World} (h : But b w w1) (o : Nat) (u : Value) : But b w (w1.setCell ⟨b, o, none⟩ u) :=
  ⟨h.low.setCell (Nat.le_refl _) _, fun i hi hb => (Below.heap_setCell _ _ _ _ hb).trans (h.blk i hi hb)⟩
theorem But.below {b B : Nat} {w0 w w1 : World} (h0 : Below B w0 w) (h : But b w w1) (hB : B ≤ b) : Below B w0 w1 := h0.trans (h.low.mono hB)
/-- the scanner that lies in block b: its text, where it stands, what it knows of quotes -/
structure Sc (w : World) (b : Nat) (s : ByteArray) (k un : Nat) : Prop where
  c0 : w.cell? ⟨b, 0, none⟩ = some (.string s)
  c1 : w.cell? ⟨b, 1, none⟩ = some (.int .i64 (k : Int))
  c2 : w.cell? ⟨b, 2, none⟩ = some (.int .i64 (un : Int))
  f1 : w.frozen? ⟨b, 1, none⟩ = false
  f2 : w.frozen? ⟨b, 2, none⟩ = false
  lt : b < w.heap.size
theorem Sc.block {w w' : World} {b : Nat} {s : ByteArray} {k un : Nat} (h : Sc w b s k un) (e : w'.heap[b]? = w.heap[b]?) : Sc w' b s k un :=
  ⟨(World.cell?_of_block e).trans h.c0, (World.cell?_of_block e).trans h.c1, (World.cell?_of_block e).trans h.c2, (World.frozen?_of_block e).trans h.f1, (World.frozen?_of_block e).trans h.f2, by
    have hlt := h.lt
    rw [Array.getElem?_eq_getElem hlt] at e
    exact (Array.getElem?_eq_some_iff.1 e).1⟩
theorem Sc.later {w w' : World} {b : Nat} {s : ByteArray} {k un : Nat} (h : Sc w b s k un) (hb : Below w.heap.size w w') : Sc w' b s k un := h.block (hb.block b h.lt)
theorem Sc.drewN {w : World} {b : Nat} {s : ByteArray} {k un : Nat} (h : Sc w b s k un) (n : Nat) : Sc (w.drewN n) b s k un := h.block rfl
theorem Tab.drewN {w : World} (h : Tab w) (n : Nat) : Tab (w.drewN n) := ⟨h.cell, h.lt⟩
theorem Tab.but {w w' : World} {b : Nat} (h : Tab w) (hb : But b w w') (hne : 0 ≠ b) : Tab w' :=
  ⟨fun j hj => by rw [cell_block (hb.blk _ h.lt hne)]; exact h.cell j hj, Nat.lt_of_lt_of_le h.lt hb.low.size⟩

theorem Sc.move {w : World} {b : Nat} {s : ByteArray} {k un : Nat} (h : Sc w b s k un) (v : Int) (k' : Nat) (hv : v = (k' : Int)) : Sc (w.setCell ⟨b, 1, none⟩ (.int .i64 v)) b s k' un := by
  obtain ⟨c0, c1, c2, f1, f2, hlt⟩ := h
  subst hv
  refine ⟨?_, ?_, ?_, ?_, ?_, ?_⟩
  · go_simp
  · go_simp
  · go_simp
  · go_simp
  · go_simp
  · simp [World.setCell]; exact hlt
theorem Sc.guess {w : World} {b : Nat} {s : ByteArray} {k un : Nat} (h : Sc w b s k un) (v : Int) (un' : Nat) (hv : v = (un' : Int)) : Sc (w.setCell ⟨b, 2, none⟩ (.int .i64 v)) b s k un' := by
  obtain ⟨c0, c1, c2, f1, f2, hlt⟩ := h
  subst hv
  refine ⟨?_, ?_, ?_, ?_, ?_, ?_⟩
  · go_simp
  · go_simp
  · go_simp
  · go_simp
  · go_simp
  · simp [World.setCell]; exact hlt
/-- how advance ends -/
def AdvIs (b : Nat) (s : ByteArray) (k n un : Nat) (w : World) (e : Ending) (w' : World) : Prop :=
  e = .returned (.string (s.extract k (k + n))) ∧ Sc w' b s (k + n) un ∧ But b w w'
set_option maxHeartbeats 1000000 in
theorem advance_any (b : Nat) (s : ByteArray) (k n un : Nat) (w : World) (h : Sc w b s k un) (hkn : k + n ≤ s.size) (hs : s.size ≤ 1000000) :
    Calls Tryd.prog 41 #[.pointer (some ⟨b, 0, none⟩), .int .i64 (n : Int)] w (AdvIs b s k n un w) := by
  have HS := hide h
  obtain ⟨c0, c1, c2, f1, f2, hlt⟩ := h
  have hcast : ((k + n : Nat) : Int) = (k : Int) + (n : Int) := by omega
  have HCA := hide hcast
  clear hcast
  go_enter Tryd.func41, Tryd.ntmps41
  go_wp2_with fail
  go_quiet (fail)
  go_wp2_with fail
  go_ret
  exact ⟨rfl, ((unhide HS).move _ _ (unhide HCA).symm).drewN _, ((But.refl b w).setCell _ _).drewN _⟩

/-- how many bytes of the comment that begins a text -/
def comN (l : List Lx.B) : Nat := if 0 ≤ Lib.indexByte l 10 then (Lib.indexByte l 10).toNat else l.length
theorem index_ge (l : List Lx.B) : -1 ≤ Lib.indexByte l 10 := by
  induction l with
  | nil => unfold Lib.indexByte; decide
  | cons c r ih => unfold Lib.indexByte; split <;> (try split) <;> omega
theorem comN_nil : comN [] = 0 := rfl
theorem comN_ten (r : List Lx.B) : comN (10 :: r) = 0 := by
  unfold comN Lib.indexByte; simp
theorem comN_cons {c : Lx.B} (h : c ≠ 10) (r : List Lx.B) : comN (c :: r) = comN r + 1 := by
  have := index_ge r
  have e : Lib.indexByte (c :: r) 10 = if Lib.indexByte r 10 = -1 then -1 else Lib.indexByte r 10 + 1 := by
    rw [Lib.indexByte]; simp [h]
  unfold comN
  rw [e]
  by_cases h2 : 0 ≤ Lib.indexByte r 10
  · rw [if_neg (show ¬ Lib.indexByte r 10 = -1 by omega), if_pos (by omega), if_pos h2]; omega
  · rw [if_pos (show Lib.indexByte r 10 = -1 by omega), if_neg (by omega), if_neg h2]; rfl
theorem comN_le : ∀ l : List Lx.B, comN l ≤ l.length
  | [] => Nat.le_refl _
  | c :: r => by
    by_cases h : c = 10
    · subst h; rw [comN_ten]; exact Nat.zero_le _
    · rw [comN_cons h, List.length_cons]; exact Nat.succ_le_succ (comN_le r)
theorem blk_com : ∀ l : List Lx.B, Lx.blk true l = comN l + Lx.blk false (l.drop (comN l))
  | [] => rfl
  | c :: r => by
    by_cases h : c = 10
    · subst h; rw [comN_ten]; simp [Lx.blk, Lx.isSpc, Lx.cls, Lx.clsT]
    · rw [comN_cons h, List.drop_succ_cons, Lx.blk, if_neg h, blk_com r]; omega
theorem com_out (s : ByteArray) : (if 0 ≤ Lib.indexByte (L s) 10 then Lib.indexByte (L s) 10 else (s.size : Int)) = (comN (L s) : Int) := by
  unfold comN
  split
  · omega
  · rw [L_len]

def atOf (w : World) (b : Nat) : Nat := match w.cell? ⟨b, 1, none⟩ with
  | some (.int _ v) => v.toNat
  | _ => 0
theorem Sc.atOf {w : World} {b : Nat} {s : ByteArray} {k un : Nat} (h : Sc w b s k un) : atOf w b = k := by
  unfold Go.Proofs.YtjppjbkndfbnhaaDoor.atOf
  rw [h.c1]
  simp
def SkipIs (b : Nat) (s : ByteArray) (k un : Nat) (w : World) (e : Ending) (w' : World) : Prop :=
  e = .returned (.tuple #[]) ∧ Sc w' b s (k + Lx.blk false ((L s).drop k)) un ∧ But b w w'
structure SkipInv (b : Nat) (s : ByteArray) (k un : Nat) (w : World) (j : Nat) (wr : World) : Prop where
  sc : Sc wr b s j un
  le : j ≤ s.size
  eq : j + Lx.blk false ((L s).drop j) = k + Lx.blk false ((L s).drop k)
  but : But b w wr
theorem skip_go {b : Nat} {s : ByteArray} {k un j n : Nat} {w wr w1 : World} (h : SkipInv b s k un w j wr) (hn : j + n ≤ s.size) (he : Lx.blk false ((L s).drop j) = n + Lx.blk false ((L s).drop (j + n))) (hs : Sc w1 b s (j + n) un) (hb : But b w w1) :
    SkipInv b s k un w (j + n) w1 := ⟨hs, hn, by have := h.eq; omega, hb⟩
set_option maxRecDepth 100000 in
set_option maxHeartbeats 4000000 in
theorem skip_any (b : Nat) (s : ByteArray) (k un : Nat) (w : World) (h : Sc w b s k un) (hk : k ≤ s.size) (hs : s.size ≤ 1000000) (hT : Tab w) (hne : 0 ≠ b) :
    Calls Tryd.prog 25 #[.pointer (some ⟨b, 0, none⟩)] w (SkipIs b s k un w) := by
  have H0 := hide h
  have HT := hide hT
  have HNE := hide hne
  clear h hT hne
  go_enter Tryd.func25, Tryd.ntmps25
  go_wp2_with fail
  go_loopw [] (fun wr => ∃ j : Nat, SkipInv b s k un w j wr) (fun wr => s.size - atOf wr b)
  case atStart => exact ⟨k, unhide H0, hk, rfl, But.refl _ _⟩
  case round =>
    obtain ⟨j, hinv⟩ := hrel
    have HI := hide hinv
    obtain ⟨c0, c1, c2, f1, f2, hlt⟩ := hinv.sc
    have hle := hinv.le
    have hTr := (unhide HT).but hinv.but (unhide HNE)
    have HTR := hide hTr
    clear hinv hTr
    by_cases hlt2 : j < s.size
    · have hcl := fun W (hW : Tab W) => classOf_any s[j] W hW
      have hclb := cls_lt s[j]
      have hd := L_drop s j hlt2
      have HD := hide hd
      have HSP := hide (show Lx.isSpc s[j] = (Lx.cls s[j] == 64) from rfl)
      have HHA := hide (Lx.cls_hash s[j])
      have dlt : decide ((j : Int) < (s.size : Int)) = true := by rw [decide_eq_true_iff]; omega
      clear hd
      by_cases h64 : Lx.cls s[j] = 64
      · rw [h64] at hcl
        have HC := hide hcl
        have HE := hide h64
        clear hcl h64
        go_wp2_with fail
        go_quiet (fail)
        go_wp2_with fail
        go_quiet ((go_at_call 39; exact quiet_add_same ((unhide HC) _ ((unhide HTR).drewN _))))
        go_wp2_with fail
        go_roundw
        case rel =>
          refine ⟨j + 1, skip_go (unhide HI) (by omega) ?_ (((unhide HI).sc.drewN _).move _ _ (by omega)) (((unhide HI).but.drewN _).setCell _ _)⟩
          rw [unhide HD, Lx.blk, if_pos (by rw [unhide HSP, unhide HE]; rfl)]
        case measure =>
          rw [(unhide HI).sc.atOf, (((unhide HI).sc.drewN _).move _ (j + 1) (by omega)).atOf]
          omega
      · by_cases h128 : Lx.cls s[j] = 128
        · rw [h128] at hcl
          have HC := hide hcl
          have HE := hide h128
          have hcm := fun W => comment_any (s.extract j s.size) W
          rw [com_out, L_tail] at hcm
          have hcn := comN_le ((L s).drop j)
          rw [List.length_drop, L_len] at hcn
          have hcb : Lx.blk false ((L s).drop j) = comN ((L s).drop j) + Lx.blk false ((L s).drop (j + comN ((L s).drop j))) := by
            have h35 : s[j] = 35 := (Lx.eq_byte (n := 35) (by decide)).2 ((unhide HHA).1 h128)
            rw [← List.drop_drop, unhide HD, h35, comN_cons (by decide), List.drop_succ_cons, Lx.blk, if_neg (by decide), if_pos rfl, blk_com]
            omega
          have hn1 : 1 ≤ comN ((L s).drop j) := by
            have h35 : s[j] = 35 := (Lx.eq_byte (n := 35) (by decide)).2 ((unhide HHA).1 h128)
            rw [unhide HD, h35, comN_cons (by decide)]
            omega
          generalize comN ((L s).drop j) = n at hcm hcn hcb hn1
          have hwr : IntKind.i64.wrap ((j : Int) + (n : Int)) = (j : Int) + (n : Int) := IntWalk.i64_in _ (by omega)
          have HCM := hide hcm
          have HCB := hide hcb
          clear hcl h128 hcm hcb h64
          go_wp2_with fail
          go_quiet (fail)
          go_wp2_with fail
          go_quiet ((go_at_call 39; exact quiet_add_same ((unhide HC) _ ((unhide HTR).drewN _))))
          go_wp2_with fail
          refine still_tail 17 (by kernel_rfl) (by kernel_rfl) ?_
          simp only [List.take_succ_cons, List.take_zero, List.drop_succ_cons, List.drop_zero]
          iterate 13 still_step
          still_call (unhide HCM _)
          repeat still_step
          refine wpStill_nil ?_
          go_wp2_with fail
          go_roundw
          case rel => exact ⟨j + n, skip_go (unhide HI) (by omega) (unhide HCB) (((unhide HI).sc.drewN _).move _ _ (by omega)) (((unhide HI).but.drewN _).setCell _ _)⟩
          case measure =>
            rw [(unhide HI).sc.atOf, (((unhide HI).sc.drewN _).move _ (j + n) (by omega)).atOf]
            omega
        · have hbl : Lx.blk false ((L s).drop j) = 0 := by
            have h35 : ¬ s[j] = 35 := fun e => h128 ((unhide HHA).2 ((Lx.eq_byte (n := 35) (by decide)).1 e))
            rw [unhide HD, Lx.blk, if_neg (by rw [unhide HSP]; simpa using h64), if_neg h35]
          have HBL := hide hbl
          have HC := hide hcl
          have h64b : ((Lx.cls s[j] : Int) == 64) = false := by rw [beq_eq_false_iff_ne]; omega
          have h128b : ((Lx.cls s[j] : Int) == 128) = false := by rw [beq_eq_false_iff_ne]; omega
          clear hcl hbl
          go_wp2_with fail
          go_quiet (fail)
          go_wp2_with fail
          go_quiet ((go_at_call 39; exact quiet_add_same ((unhide HC) _ ((unhide HTR).drewN _))))
          go_wp2_with fail
          refine bodyPost_ret (results_none rfl _ _ _) rfl ?_
          have he := (unhide HI).eq
          rw [unhide HBL] at he
          exact ⟨rfl, by rw [← he]; exact (unhide HI).sc.drewN _, (unhide HI).but.drewN _⟩
    · have dlt : decide ((j : Int) < (s.size : Int)) = false := by rw [decide_eq_false_iff_not]; omega
      go_wp2_with fail
      go_quiet (fail)
      have hbl : Lx.blk false ((L s).drop j) = 0 := by rw [List.drop_of_length_le (by rw [L_len]; omega)]; rfl
      have HBL := hide hbl
      clear hbl
      go_wp2_with fail
      go_end0
      have he := (unhide HI).eq
      rw [unhide HBL] at he
      exact ⟨rfl, by rw [← he]; exact (unhide HI).sc.drewN _, (unhide HI).but.drewN _⟩
end Go.Proofs.YtjppjbkndfbnhaaDoor
