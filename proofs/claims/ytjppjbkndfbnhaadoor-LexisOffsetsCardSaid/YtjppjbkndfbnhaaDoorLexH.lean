/- Contracts over the program of lexis: rows of tokens and of problems; the closure that notes problems. -/
import Derived.Test.YtjppjbkndfbnhaaDoorLexG
import Derived.Laws.EntriesVeiled
namespace Go.Proofs.YtjppjbkndfbnhaaDoor
set_option linter.unusedSimpArgs false
set_option linter.unusedVariables false
open Go.RowKit

theorem infoTok : (Tryd.prog.info? 41).map (fun i => (i.zero, i.size, i.bytes)) = some (some (.agg #[.int .i64 0, .string ⟨#[]⟩, .int .i64 0]), 3, 32) := by kernel_rfl
theorem infoPb : (Tryd.prog.info? 44).map (fun i => (i.zero, i.size, i.bytes)) = some (some (.agg #[.int .i64 0, .int .i64 0]), 2, 16) := by kernel_rfl
def tk1 (t : Lx.Tk) : List Value := [.int .i64 t.k, .string t.t, .int .i64 t.a]
def tkCells (l : List Lx.Tk) : List Value := l.flatMap tk1
def pb1 (p : Int) : List Value := [.int .i64 p, .int .i64 60]
def pbCells (l : List Int) : List Value := l.flatMap pb1
theorem tkCells_append (a b : List Lx.Tk) : tkCells (a ++ b) = tkCells a ++ tkCells b := List.flatMap_append
theorem pbCells_append (a b : List Int) : pbCells (a ++ b) = pbCells a ++ pbCells b := List.flatMap_append
theorem tkCells_one (t : Lx.Tk) : tkCells [t] = tk1 t := by simp [tkCells]
theorem pbCells_one (p : Int) : pbCells [p] = pb1 p := by simp [pbCells]
def OwnT (w : World) (base : Nat) (v : Value) (l : List Lx.Tk) : Prop := w.ownsRow base 41 3 v l.length (tkCells l)
def OwnP (w : World) (base : Nat) (v : Value) (l : List Int) : Prop := w.ownsRow base 44 2 v l.length (pbCells l)
theorem ownLater {w W : World} {base size n : Nat} {e : TypeId} {v : Value} {xs : List Value} (h : w.ownsRow base e size v n xs) (hb : ∀ g, v.ownBlock = some g → W.heap[g]? = w.heap[g]?) : W.ownsRow base e size v n xs := by
  refine ⟨h.1, ?_⟩
  rcases h.2 with h | ⟨g, cap, cur, rfl, hbg, hg, r⟩
  · exact .inl h
  · exact .inr ⟨g, cap, cur, rfl, hbg, (hb g rfl).trans hg, r⟩

theorem wpList_own5 {w : World} {ops : Array Oper} {rest : List Oper} {o : Oper} {a : Act} {Q : Exit → Act → World → Prop} (hgd : o.guard = none) (s x : Operand) (t : TypeId)
    (ho : o.op = .call { callee := .builtin .append, args := #[s, x], argTypes := #[t, t] })
    (base : Nat) (e : TypeId) (i : TypeInfo) (z : Value) (size bytes : Nat) (ht : Tryd.prog.underlying t = some (.slice e)) (hi : Tryd.prog.info? e = some i) (hz : i.zero = some z)
    (hsize : i.size = size) (hby : i.bytes = bytes) (hzs : z.cells.size = size) (hsz : 0 < size)
    (v : Value) (n : Nat) (xs : List Value) (hs : a.eval s = v) (hown : w.ownsRow base e size v n xs)
    (ad : Addr) (m c : Nat) (news : List Value) (hx : a.eval x = .slice (some ad) m c) (hl : news.length = m * size) (hnews : ∀ j u, news[j]? = some u → w.cell? (ad.add j) = some u) (h1 : ∀ u ∈ news, u.oneCell' = true)
    (h63 : n + m ≤ maxLen) (hbytes : (n + m) * bytes ≤ 140737488355328) (hbase : base ≤ w.heap.size)
    (h : ∀ v' w', w'.ownsRow base e size v' (n + m) (xs ++ news) → w.grownBy w' v.ownBlock → (v'.ownBlock = v.ownBlock ∨ v'.ownBlock = some w.heap.size) → wpList Tryd.prog ops Q rest (a.put o.dst v') w') : wpList Tryd.prog ops Q (o :: rest) a w := by
  obtain ⟨v', w', hr, h2, h3, _, h5⟩ := run_append_own_at (P := Tryd.prog) w base t o.type e i z size bytes ht hi hz hsize hby hzs hsz v n xs hown ad m c news hl hnews h1 h63 hbytes hbase
  refine wpList_plain hgd fun K hK => ?_
  unfold Oper.wp execOp
  simp only [ho, resolve, invoke, builtin, Sem.run_bind, Sem.run_pure, Result.andThen_ok, List.map_toArray, List.map_cons, List.map_nil, hs, hx, hr]
  exact hK _ _ (h v' w' h2 h3 h5)
theorem add0 (g j : Nat) : (⟨g, 0, none⟩ : Addr).add j = ⟨g, j, none⟩ := by unfold Addr.add; split <;> simp_all
theorem threeAt {w : World} {g : Nat} {x y z : Value} (h0 : w.cell? ⟨g, 0, none⟩ = some x) (h1 : w.cell? ⟨g, 1, none⟩ = some y) (h2 : w.cell? ⟨g, 2, none⟩ = some z) : ∀ (j : Nat) (u : Value), [x, y, z][j]? = some u → w.cell? ((⟨g, 0, none⟩ : Addr).add j) = some u := by
  intro j u hj
  match j, hj with
  | 0, hj => simp at hj; subst hj; exact h0
  | 1, hj => simp at hj; subst hj; exact h1
  | 2, hj => simp at hj; subst hj; exact h2
  | j + 3, hj => simp at hj
theorem twoAt {w : World} {g : Nat} {x y : Value} (h0 : w.cell? ⟨g, 0, none⟩ = some x) (h1 : w.cell? ⟨g, 1, none⟩ = some y) : ∀ (j : Nat) (u : Value), [x, y][j]? = some u → w.cell? ((⟨g, 0, none⟩ : Addr).add j) = some u := by
  intro j u hj
  match j, hj with
  | 0, hj => simp at hj; subst hj; exact h0
  | 1, hj => simp at hj; subst hj; exact h1
  | j + 2, hj => simp at hj
theorem tk1_one (t : Lx.Tk) : ∀ v ∈ tk1 t, v.oneCell' = true := by
  intro v hv
  simp [tk1] at hv
  rcases hv with rfl | rfl | rfl <;> rfl
theorem pb1_one (p : Int) : ∀ v ∈ pb1 p, v.oneCell' = true := by
  intro v hv
  simp [pb1] at hv
  rcases hv with rfl | rfl <;> rfl
theorem wpList_appT {w : World} {ops : Array Oper} {rest : List Oper} {o : Oper} {a : Act} {Q : Exit → Act → World → Prop} (hgd : o.guard = none) (s x : Operand)
    (ho : o.op = .call { callee := .builtin .append, args := #[s, x], argTypes := #[24, 24] })
    (base : Nat) (v : Value) (l : List Lx.Tk) (t : Lx.Tk) (g c : Nat) (hs : a.eval s = v) (hx : a.eval x = .slice (some ⟨g, 0, none⟩) 1 c) (hown : OwnT w base v l)
    (h0 : w.cell? ⟨g, 0, none⟩ = some (.int .i64 t.k)) (h1 : w.cell? ⟨g, 1, none⟩ = some (.string t.t)) (h2 : w.cell? ⟨g, 2, none⟩ = some (.int .i64 t.a)) (hl : l.length ≤ 1000000) (hbase : base ≤ w.heap.size)
    (h : ∀ v' w', OwnT w' base v' (l ++ [t]) → w.grownBy w' v.ownBlock → (v'.ownBlock = v.ownBlock ∨ v'.ownBlock = some w.heap.size) → wpList Tryd.prog ops Q rest (a.put o.dst v') w') : wpList Tryd.prog ops Q (o :: rest) a w := by
  obtain ⟨i0, hi, hz0, hz1, hz2⟩ := info_parts infoTok
  refine wpList_own5 hgd s x 24 ho base 41 i0 (.agg #[.int .i64 0, .string ⟨#[]⟩, .int .i64 0]) 3 32 Tryd.underlying24 hi hz0 hz1 hz2 rfl (by decide) v l.length (tkCells l) hs hown ⟨g, 0, none⟩ 1 c (tk1 t) hx rfl (threeAt h0 h1 h2) (tk1_one t) (by unfold maxLen; omega) (by omega) hbase fun v' w' h2 h3 h4 => h v' w' ?_ h3 h4
  unfold OwnT
  rw [tkCells_append, tkCells_one, List.length_append]
  exact h2
theorem wpList_appP {w : World} {ops : Array Oper} {rest : List Oper} {o : Oper} {a : Act} {Q : Exit → Act → World → Prop} (hgd : o.guard = none) (s x : Operand)
    (ho : o.op = .call { callee := .builtin .append, args := #[s, x], argTypes := #[25, 25] })
    (base : Nat) (v : Value) (l : List Int) (p : Int) (g c : Nat) (hs : a.eval s = v) (hx : a.eval x = .slice (some ⟨g, 0, none⟩) 1 c) (hown : OwnP w base v l)
    (h0 : w.cell? ⟨g, 0, none⟩ = some (.int .i64 p)) (h1 : w.cell? ⟨g, 1, none⟩ = some (.int .i64 60)) (hl : l.length ≤ 1000000) (hbase : base ≤ w.heap.size)
    (h : ∀ v' w', OwnP w' base v' (l ++ [p]) → w.grownBy w' v.ownBlock → (v'.ownBlock = v.ownBlock ∨ v'.ownBlock = some w.heap.size) → wpList Tryd.prog ops Q rest (a.put o.dst v') w') : wpList Tryd.prog ops Q (o :: rest) a w := by
  obtain ⟨i0, hi, hz0, hz1, hz2⟩ := info_parts infoPb
  refine wpList_own5 hgd s x 25 ho base 44 i0 (.agg #[.int .i64 0, .int .i64 0]) 2 16 Tryd.underlying25 hi hz0 hz1 hz2 rfl (by decide) v l.length (pbCells l) hs hown ⟨g, 0, none⟩ 1 c (pb1 p) hx rfl (twoAt h0 h1) (pb1_one p) (by unfold maxLen; omega) (by omega) hbase fun v' w' h2 h3 h4 => h v' w' ?_ h3 h4
  unfold OwnP
  rw [pbCells_append, pbCells_one, List.length_append]
  exact h2

/-- all blocks but some lie as they lay -/
structure Kp (S : Nat → Prop) (w w' : World) : Prop where
  low : Below 0 w w'
  blk : ∀ i, i < w.heap.size → ¬ S i → w'.heap[i]? = w.heap[i]?
theorem Kp.refl (S : Nat → Prop) (w : World) : Kp S w w := ⟨Below.refl _ _, fun _ _ _ => rfl⟩
theorem Kp.below {S : Nat → Prop} {w w' : World} (h : Kp S w w') {B : Nat} (hB : B ≤ w.heap.size) (hS : ∀ i, S i → B ≤ i) : Below B w w' :=
  ⟨h.low.os, h.low.tape, h.low.output, h.low.size, fun k hk => h.blk k (by omega) fun hs => by have := hS k hs; omega⟩
theorem Kp.alloc {S : Nat → Prop} {w w' : World} (h : Kp S w w') (o : Obj) : Kp S w (w'.alloc o) :=
  ⟨h.low.alloc (Nat.zero_le _) o, fun i hi hn => (Below.heap_alloc _ _ _ (by have := h.low.size; omega)).trans (h.blk i hi hn)⟩
theorem Kp.setCell {S : Nat → Prop} {w w' : World} (h : Kp S w w') (a : Addr) (hs : S a.block) (u : Value) : Kp S w (w'.setCell a u) :=
  ⟨h.low.setCell (Nat.zero_le _) u, fun i hi hn => (Below.heap_setCell _ _ _ _ (fun e => hn (by rw [e]; exact hs))).trans (h.blk i hi hn)⟩
theorem Kp.grown {S : Nat → Prop} {w w1 w2 : World} {row : Option Nat} (h : Kp S w w1) (hg : w1.grownBy w2 row) (hr : ∀ g, row = some g → g < w.heap.size → S g) : Kp S w w2 :=
  ⟨h.low.grown hg (Nat.zero_le _) (fun _ _ => Nat.zero_le _), fun i hi hn => (hg.block i (by have := h.low.size; omega) (fun e => hn (hr i e.symm hi))).trans (h.blk i hi hn)⟩

/-- what note leaves: the boxes of the run's end and of the problems, the row -/
structure NoteIs (rb pb base : Nat) (fr to e0 : Int) (v : Value) (p : List Int) (w : World) (e : Ending) (w' : World) : Prop where
  ret : e = .returned (.tuple #[])
  run : w'.cell? ⟨rb, 0, none⟩ = some (.int .i64 to)
  runF : w'.frozen? ⟨rb, 0, none⟩ = false
  badF : w'.frozen? ⟨pb, 0, none⟩ = false
  bad : ∃ v', w'.cell? ⟨pb, 0, none⟩ = some v' ∧ OwnP w' base v' (if fr ≠ e0 ∧ p.length < 64 then p ++ [fr] else p) ∧ (v'.ownBlock = v.ownBlock ∨ ∃ g, v'.ownBlock = some g ∧ w.heap.size ≤ g)
  keep : Kp (fun i => i = rb ∨ i = pb ∨ v.ownBlock = some i) w w'
set_option maxRecDepth 100000 in
set_option maxHeartbeats 4000000 in
theorem note_any (rb pb base : Nat) (fr to e0 : Int) (v : Value) (p : List Int) (w : World) (hrp : rb ≠ pb) (hrb : rb < base) (hpb : pb < base) (hbase : base ≤ w.heap.size) (hp : p.length ≤ 64)
    (c1 : w.cell? ⟨rb, 0, none⟩ = some (.int .i64 e0)) (f1 : w.frozen? ⟨rb, 0, none⟩ = false) (c2 : w.cell? ⟨pb, 0, none⟩ = some v) (f2 : w.frozen? ⟨pb, 0, none⟩ = false) (hO : OwnP w base v p) :
    Calls Tryd.prog 24 #[.int .i64 fr, .int .i64 to, .pointer (some ⟨rb, 0, none⟩), .pointer (some ⟨pb, 0, none⟩)] w (NoteIs rb pb base fr to e0 v p w) := by
  obtain ⟨A, c, rfl, hAc⟩ : ∃ A c, v = .slice A p.length c ∧ p.length ≤ c := by
    rcases hO.2 with ⟨h1, h0⟩ | ⟨g, cap, cur, h1, _, _, h2, _⟩
    · exact ⟨none, 0, by rw [h1, h0], by omega⟩
    · exact ⟨_, cap, h1, h2⟩
  have hprb : ¬ pb = rb := fun e => hrp e.symm
  have hrl : rb < w.heap.size := by omega
  have hpl : pb < w.heap.size := by omega
  have hob : ∀ g, Value.ownBlock (.slice A p.length c) = some g → base ≤ g := fun g hg => (World.ownsRow.lt hO g hg).1
  have hrne : ∀ (u : Value) (W : World), OwnP W base (.slice A p.length c) p → OwnP (W.setCell ⟨rb, 0, none⟩ u) base (.slice A p.length c) p := fun u W h => ownLater h fun g hg => Below.heap_setCell _ _ _ _ (by have := hob g hg; show g ≠ rb; omega)
  have HO := hide hO
  have HR := hide hrne
  have HOB := hide hob
  clear hO hrne hob
  by_cases h1 : fr = e0
  · have b1 : (fr != e0) = false := by rw [h1]; simp
    have hq : (if fr ≠ e0 ∧ p.length < 64 then p ++ [fr] else p) = p := if_neg (fun h => h.1 h1)
    have HQ := hide hq
    clear hq h1
    go_enter Tryd.func24, Tryd.ntmps24
    go_wp2_with fail
    go_end0
    exact ⟨rfl, by go_simp, by go_simp, by go_simp, ⟨_, by go_simp, by rw [unhide HQ]; exact (unhide HR) _ _ (unhide HO), .inl rfl⟩, (Kp.refl _ _).setCell _ (.inl rfl) _⟩
  · have b1 : (fr != e0) = true := by rw [bne_iff_ne]; exact h1
    by_cases h2 : p.length < 64
    · have hq : (if fr ≠ e0 ∧ p.length < 64 then p ++ [fr] else p) = p ++ [fr] := if_pos ⟨h1, h2⟩
      have HQ := hide hq
      clear hq h1
      go_enter Tryd.func24, Tryd.ntmps24
      go_wp2_with (at_builtin; refine wpList_appP rfl _ _ rfl base _ p fr w.heap.size 1 rfl rfl (World.ownsRow.alloc (unhide HO) _) ?c1 ?c2 ?c3 ?c4 ?_)
      case c1 => go_simp
      case c2 => go_simp
      case c3 => omega
      case c4 => simp; omega
      intro v1 w1 hown hgrow hbl
      obtain ⟨A1, n1, c1', rfl⟩ : ∃ A1 n1 c1', v1 = .slice A1 n1 c1' := by
        rcases hown.2 with ⟨h1, h0⟩ | ⟨g, cap, cur, h1, _⟩
        · exact ⟨none, 0, 0, h1⟩
        · exact ⟨_, _, cap, h1⟩
      have kb : ∀ i, i < base → w1.heap[i]? = w.heap[i]? := fun i hi => by
        rw [hgrow.block i (by simp; omega) (fun e => by have := (unhide HOB) i e.symm; omega)]
        exact Below.heap_alloc _ _ _ (by omega)
      have d1 : w1.cell? ⟨rb, 0, none⟩ = some (.int .i64 e0) := (World.cell?_of_block (kb rb hrb)).trans c1
      have d2 : w1.frozen? ⟨rb, 0, none⟩ = false := (World.frozen?_of_block (kb rb hrb)).trans f1
      have d3 : w1.cell? ⟨pb, 0, none⟩ = some (.slice A p.length c) := (World.cell?_of_block (kb pb hpb)).trans c2
      have d4 : w1.frozen? ⟨pb, 0, none⟩ = false := (World.frozen?_of_block (kb pb hpb)).trans f2
      have hsz := hgrow.size
      simp only [World.size_alloc] at hsz
      have hrl1 : rb < w1.heap.size := by omega
      have hpl1 : pb < w1.heap.size := by omega
      have hlt1 : ∀ g, Value.ownBlock (.slice A1 n1 c1') = some g → base ≤ g := fun g hg => (World.ownsRow.lt hown g hg).1
      have hfin : ∀ u1 u2, OwnP ((w1.setCell ⟨pb, 0, none⟩ u1).setCell ⟨rb, 0, none⟩ u2) base (.slice A1 n1 c1') (p ++ [fr]) := fun u1 u2 => ownLater hown fun g hg => by
        have := hlt1 g hg
        rw [Below.heap_setCell _ _ _ _ (show g ≠ rb by omega), Below.heap_setCell _ _ _ _ (show g ≠ pb by omega)]
      have hkp : Kp (fun i => i = rb ∨ i = pb ∨ Value.ownBlock (.slice A p.length c) = some i) w w1 := ((Kp.refl _ _).alloc _).grown hgrow (fun g hg _ => .inr (.inr hg))
      have hbl' : Value.ownBlock (.slice A1 n1 c1') = Value.ownBlock (.slice A p.length c) ∨ ∃ g, Value.ownBlock (.slice A1 n1 c1') = some g ∧ w.heap.size ≤ g := hbl.imp id (fun h => ⟨_, h, by simp⟩)
      have HF := hide hfin; have HK := hide hkp; have HBL := hide hbl'
      clear hown hgrow hbl kb hlt1 hfin hkp hbl' hsz
      go_wp2_with fail
      go_end0
      exact ⟨rfl, by go_simp, by go_simp, by go_simp, ⟨_, by go_simp, by rw [unhide HQ]; exact (unhide HF) _ _, unhide HBL⟩, ((unhide HK).setCell _ (.inr (.inl rfl)) _).setCell _ (.inl rfl) _⟩
    · have hq : (if fr ≠ e0 ∧ p.length < 64 then p ++ [fr] else p) = p := if_neg (fun h => h2 h.2)
      have HQ := hide hq
      have h2' : ¬ (p.length : Int) < 64 := by omega
      clear hq h1
      go_enter Tryd.func24, Tryd.ntmps24
      go_wp2_with fail
      go_end0
      exact ⟨rfl, by go_simp, by go_simp, by go_simp, ⟨_, by go_simp, by rw [unhide HQ]; exact (unhide HR) _ _ (unhide HO), .inl rfl⟩, (Kp.refl _ _).setCell _ (.inl rfl) _⟩
end Go.Proofs.YtjppjbkndfbnhaaDoor
