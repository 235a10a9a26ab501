/- Signing: the pure functions that the program computes. Contracts over the program of signing: isKey. Contracts over the program of signing: twoBytes, slices.Grow, slices.Clip, slices.Concat. Contracts over the program of signing: a one-time key's secrets and their hashes. Contracts over the program of signing: the hash of a secret, a one-time key, the one-time public key. Contracts over the program of signing: a one-time key is made. Contracts over the program of signing: the one-time public key of hashes that a function has. Contracts over the program of signing: the one-time public keys of a key, Public, New. Contracts over the program of signing: Public, New. -/
import Derived.Test.YtceppmajbkmbdaaDoorDigPath
import Derived.Test.YtceppmajbkmbdaaDoorDigLane
import Derived.Test.YtceppmajbkmbdaaDoorDigApp2
import Derived.Great.FillDense
import Derived.Test.YtceppmajbkmbdaaDoorDigClm
namespace Go.Proofs.YtceppmajbkmbdaaDoor
set_option linter.unusedSimpArgs false
set_option linter.unusedVariables false
open Go.RowKit

def SECB : List Int := [115, 101, 99, 114, 101, 116]
def OPNB : List Int := [111, 112, 101, 110]
def ONEB : List Int := [111, 110, 101]
def MSGB : List Int := [109, 101, 115, 115, 97, 103, 101]
/-- a number in two bytes -/
def twoB (i : Nat) : List Int := [((i / 256 % 256 : Nat) : Int), ((i % 256 : Nat) : Int)]
theorem twoB_byt (i : Nat) : ∀ c ∈ twoB i, Byt c := fun c hc => by
  simp only [twoB, List.mem_cons, List.not_mem_nil, or_false] at hc
  unfold Byt
  rcases hc with rfl | rfl <;> omega
theorem twoB_length (i : Nat) : (twoB i).length = 2 := rfl
/-- what a secret is the hash of, up to its place -/
def begS (seed : List Int) (i : Nat) : List Int := hashF SECB ++ (seed ++ twoB i)
def secS (B : List Int) (p q : Nat) : List Int := hashF (B ++ [(p : Int), (q : Int)])
def opnS (d : List Int) : List Int := hashF (hashF OPNB ++ d)
def halfS (f : Nat → Nat → List Int) (k : Nat) : List Int := (List.range k).flatMap fun j => f j 0 ++ f j 1
def oneS (f : Nat → Nat → List Int) : List Int := tagF ONEB (halfS f 64)
def pubS (seed : List Int) (i : Nat) : List Int := oneS fun j b => opnS (secS (begS seed i) j b)
def pubsS (seed : List Int) (n : Nat) : List (List Int) := (List.range n).map (pubS seed)
theorem pubsS_length (seed : List Int) (n : Nat) : (pubsS seed n).length = n := by simp [pubsS]
theorem pubsS_get (seed : List Int) (n i : Nat) (h : i < n) : (pubsS seed n)[i]? = some (pubS seed i) := by
  unfold pubsS
  rw [List.getElem?_map, List.getElem?_range h]
  rfl
theorem dg_pubS (seed : List Int) (i : Nat) : Dg (pubS seed i) := dg_hash _
theorem dg_pubsS (seed : List Int) (n : Nat) : ∀ d ∈ pubsS seed n, Dg d := fun d hd => by
  obtain ⟨i, _, rfl⟩ := List.mem_map.1 hd
  exact dg_pubS seed i
theorem dg_secS (B : List Int) (p q : Nat) : Dg (secS B p q) := dg_hash _
theorem dg_opnS (d : List Int) : Dg (opnS d) := dg_hash _
theorem halfS_succ (f : Nat → Nat → List Int) (k : Nat) : halfS f (k + 1) = halfS f k ++ (f k 0 ++ f k 1) := by
  unfold halfS
  rw [List.range_succ, List.flatMap_append]
  simp
theorem halfS_length (f : Nat → Nat → List Int) (k : Nat) (h : ∀ j b, j < k → b < 2 → (f j b).length = 32) : (halfS f k).length = 64 * k := by
  induction k with
  | zero => rfl
  | succ k ih =>
    rw [halfS_succ, List.length_append, List.length_append, ih fun j b h1 h2 => h j b (by omega) h2, h k 0 (by omega) (by omega), h k 1 (by omega) (by omega)]
    omega
theorem halfS_byt (f : Nat → Nat → List Int) (k : Nat) (h : ∀ j b, j < k → b < 2 → ∀ c ∈ f j b, Byt c) : ∀ c ∈ halfS f k, Byt c := fun c hc => by
  obtain ⟨j, hj, hm⟩ := List.mem_flatMap.1 hc
  have hj' := List.mem_range.1 hj
  rcases List.mem_append.1 hm with h' | h'
  · exact h j 0 hj' (by omega) c h'
  · exact h j 1 hj' (by omega) c h'
theorem halfS_congr (f g : Nat → Nat → List Int) (k : Nat) (h : ∀ j b, j < k → b < 2 → f j b = g j b) : halfS f k = halfS g k := by
  induction k with
  | zero => rfl
  | succ k ih =>
    rw [halfS_succ, halfS_succ, ih fun j b h1 h2 => h j b (by omega) h2, h k 0 (by omega) (by omega), h k 1 (by omega) (by omega)]

/-- the bits that are signed -/
def bitS (d : List Int) (j : Nat) : Bool := bits .and .u8 (d.getD (j / 8) 0 / 2 ^ (7 - j % 8)) 1 == 1
def msgS (pub : List Int) (i : Nat) (msg : List Int) : List Int := tagF MSGB (pub ++ (twoB i ++ msg))
def bitsS (pub : List Int) (i : Nat) (msg : List Int) : List Bool := (List.range 64).map (bitS (msgS pub i msg))
theorem bitsS_length (pub : List Int) (i : Nat) (msg : List Int) : (bitsS pub i msg).length = 64 := by simp [bitsS]
def bN (b : Bool) : Nat := if b then 1 else 0
def bitAt (bits : List Bool) (j : Nat) : Nat := bN (bits.getD j false)
theorem bN_le (b : Bool) : bN b ≤ 1 := by cases b <;> decide
def openedS (seed : List Int) (i : Nat) (bits : List Bool) (k : Nat) : List (List Int) := (List.range k).map fun j => secS (begS seed i) j (bitAt bits j)
def closedS (seed : List Int) (i : Nat) (bits : List Bool) (k : Nat) : List (List Int) := (List.range k).map fun j => opnS (secS (begS seed i) j (1 - bitAt bits j))
theorem openedS_length (seed : List Int) (i : Nat) (bits : List Bool) (k : Nat) : (openedS seed i bits k).length = k := by simp [openedS]
theorem closedS_length (seed : List Int) (i : Nat) (bits : List Bool) (k : Nat) : (closedS seed i bits k).length = k := by simp [closedS]
theorem openedS_succ (seed : List Int) (i : Nat) (bits : List Bool) (k : Nat) : openedS seed i bits (k + 1) = openedS seed i bits k ++ [secS (begS seed i) k (bitAt bits k)] := by simp [openedS, List.range_succ]
theorem closedS_succ (seed : List Int) (i : Nat) (bits : List Bool) (k : Nat) : closedS seed i bits (k + 1) = closedS seed i bits k ++ [opnS (secS (begS seed i) k (1 - bitAt bits k))] := by simp [closedS, List.range_succ]
theorem openedS_get (seed : List Int) (i : Nat) (bits : List Bool) (k j : Nat) (h : j < k) : (openedS seed i bits k)[j]? = some (secS (begS seed i) j (bitAt bits j)) := by
  unfold openedS
  rw [List.getElem?_map, List.getElem?_range h]
  rfl
theorem closedS_get (seed : List Int) (i : Nat) (bits : List Bool) (k j : Nat) (h : j < k) : (closedS seed i bits k)[j]? = some (opnS (secS (begS seed i) j (1 - bitAt bits j))) := by
  unfold closedS
  rw [List.getElem?_map, List.getElem?_range h]
  rfl
theorem dg_openedS (seed : List Int) (i : Nat) (bits : List Bool) (k : Nat) : ∀ d ∈ openedS seed i bits k, Dg d := fun d hd => by
  obtain ⟨j, _, rfl⟩ := List.mem_map.1 hd
  exact dg_secS _ _ _
theorem dg_closedS (seed : List Int) (i : Nat) (bits : List Bool) (k : Nat) : ∀ d ∈ closedS seed i bits k, Dg d := fun d hd => by
  obtain ⟨j, _, rfl⟩ := List.mem_map.1 hd
  exact dg_opnS _
/-- the hashes that a signature shows -/
def shownS (bits : List Bool) (opened closed : List (List Int)) (j b : Nat) : List Int := if b = bitAt bits j then opnS (opened.getD j []) else closed.getD j []
def verS (pub : List Int) (many i : Nat) (bits : List Bool) (opened closed path : List (List Int)) : Bool :=
  decide (path.length = lenP many i) && decide (climbP (oneS (shownS bits opened closed)) many i path = pub)
theorem shown_own (seed : List Int) (i : Nat) (bits : List Bool) (j b : Nat) (hj : j < 64) (hb : b < 2) :
    shownS bits (openedS seed i bits 64) (closedS seed i bits 64) j b = opnS (secS (begS seed i) j b) := by
  unfold shownS
  rw [List.getD_eq_getElem?_getD, List.getD_eq_getElem?_getD, openedS_get _ _ _ _ _ hj, closedS_get _ _ _ _ _ hj]
  have h1 := bN_le (bits.getD j false)
  split
  · rename_i h; rw [h]; rfl
  · rename_i h
    have h2 : bitAt bits j ≤ 1 := h1
    have : 1 - bitAt bits j = b := by omega
    rw [this]
    rfl
theorem one_shown (seed : List Int) (i : Nat) (bits : List Bool) : oneS (shownS bits (openedS seed i bits 64) (closedS seed i bits 64)) = pubS seed i := by
  unfold oneS pubS oneS
  congr 1
  exact halfS_congr _ _ 64 fun j b h1 h2 => shown_own seed i bits j b h1 h2
/-- a signature verifies -/
theorem ver_own (seed : List Int) (n i : Nat) (bits : List Bool) (hi : i < n) : verS (treeP (pubsS seed n)) n i bits (openedS seed i bits 64) (closedS seed i bits 64) (pathP (pubsS seed n) i) = true := by
  obtain ⟨h1, h2, h3⟩ := pathP_spec n (pubsS seed n) i (pubsS_length seed n) hi
  unfold verS
  rw [one_shown, h3 _ (pubsS_get seed n i hi)]
  simp [h1]
end Go.Proofs.YtceppmajbkmbdaaDoor
namespace Go.Proofs.YtceppmajbkmbdaaDoor
set_option linter.unusedSimpArgs false
set_option linter.unusedVariables false
open Go.RowKit

def keyOk (n : Nat) (m u : Int) : Bool := decide (1 ≤ n ∧ n ≤ 64 ∧ 1 ≤ m ∧ m ≤ 4096 ∧ 0 ≤ u ∧ u ≤ m)
def keyV (A : Option Addr) (n c : Nat) (m u : Int) : Value := .agg #[.slice A n c, .int .i64 m, .int .i64 u]

set_option maxRecDepth 100000 in
set_option maxHeartbeats 4000000 in
theorem isKey_any (A : Option Addr) (n c : Nat) (m u : Int) (w : World) :
    Calls Tryd.prog 66 #[keyV A n c m u] w fun x w' => x = .returned (.bool (keyOk n m u)) ∧ Below w.heap.size w w' := by
  unfold keyV
  have hb1 := fun o => Below.alloc (Below.refl w.heap.size w) (Nat.le_refl _) o
  have HB := hide hb1
  clear hb1
  by_cases h1 : (n : Int) < 1
  · have e : keyOk n m u = false := by unfold keyOk; simp; omega
    rw [e]
    clear e
    go_enter Tryd.func66, Tryd.ntmps66
    go_wp2_with fail
    go_ret
    exact ⟨rfl, unhide HB _⟩
  by_cases h2 : (64 : Int) < (n : Int)
  · have e : keyOk n m u = false := by unfold keyOk; simp; omega
    rw [e]
    clear e
    go_enter Tryd.func66, Tryd.ntmps66
    go_wp2_with fail
    go_ret
    exact ⟨rfl, unhide HB _⟩
  by_cases h3 : m < 1
  · have e : keyOk n m u = false := by unfold keyOk; simp; omega
    rw [e]
    clear e
    go_enter Tryd.func66, Tryd.ntmps66
    go_wp2_with fail
    go_ret
    exact ⟨rfl, unhide HB _⟩
  by_cases h4 : 4096 < m
  · have e : keyOk n m u = false := by unfold keyOk; simp; omega
    rw [e]
    clear e
    go_enter Tryd.func66, Tryd.ntmps66
    go_wp2_with fail
    go_ret
    exact ⟨rfl, unhide HB _⟩
  by_cases h5 : 0 ≤ u
  · by_cases h6 : u ≤ m
    · have e : keyOk n m u = true := by unfold keyOk; simp; omega
      rw [e]
      clear e
      go_enter Tryd.func66, Tryd.ntmps66
      go_wp2_with fail
      go_ret
      exact ⟨rfl, unhide HB _⟩
    · have e : keyOk n m u = false := by unfold keyOk; simp; omega
      rw [e]
      clear e
      go_enter Tryd.func66, Tryd.ntmps66
      go_wp2_with fail
      go_ret
      exact ⟨rfl, unhide HB _⟩
  · have e : keyOk n m u = false := by unfold keyOk; simp; omega
    rw [e]
    clear e
    go_enter Tryd.func66, Tryd.ntmps66
    go_wp2_with fail
    go_ret
    exact ⟨rfl, unhide HB _⟩

end Go.Proofs.YtceppmajbkmbdaaDoor
namespace Go.Proofs.YtceppmajbkmbdaaDoor
set_option linter.unusedSimpArgs false
set_option linter.unusedVariables false
open Go.RowKit

theorem lit2 (w W : World) (a b : Int) (t : TypeId) (fr : Nat × Nat) (hW : W.heap = w.heap.push (.cells #[.int .u8 a, .int .u8 b] t fr)) (ha : Byt a) (hb : Byt b) : Bt W (some ⟨w.heap.size, 0, none⟩) [a, b] := by
  refine ⟨fun x hx => ?_, fun _ => ⟨_, 0, rfl, fun j hj => ?_⟩⟩
  · simp only [List.mem_cons, List.not_mem_nil, or_false] at hx
    rcases hx with rfl | rfl <;> assumption
  · have e : W.heap[w.heap.size]? = some (.cells #[.int .u8 a, .int .u8 b] t fr) := by rw [hW, Array.getElem?_push_size]
    rw [Nat.zero_add]
    simp only [World.cell?, e]
    match j, hj with
    | 0, _ => rfl
    | 1, _ => rfl
theorem two_hi (i : Nat) (h : i < 65536) : IntKind.u8.wrap ((i : Int) / 2 ^ 8) = ((i / 256 % 256 : Nat) : Int) := by
  rw [IntKind.wrap_u8]; omega
theorem two_lo (i : Nat) : IntKind.u8.wrap (i : Int) = ((i % 256 : Nat) : Int) := by
  rw [IntKind.wrap_u8]; omega

set_option maxRecDepth 100000 in
set_option maxHeartbeats 4000000 in
theorem two_any (i : Nat) (h : i < 65536) (w : World) :
    Calls Tryd.prog 68 #[.int .i64 (i : Int)] w fun x w' => (∃ A c, x = .returned (.slice A 2 c) ∧ 2 ≤ c ∧ Bt w' A (twoB i) ∧ A ≠ none) ∧ Below w.heap.size w w' := by
  have e1 := two_hi i h
  have e2 := two_lo i
  have H : Hid (i < 65536) := h
  clear h
  go_enter Tryd.func68, Tryd.ntmps68
  go_wp2_with fail
  go_ret
  exact ⟨⟨_, _, rfl, Nat.le_refl _, lit2 w _ _ _ _ _ rfl ⟨by omega, by omega⟩ ⟨by omega, by omega⟩, by simp⟩, (Below.refl _ _).alloc (Nat.le_refl _) _⟩

theorem own_le {w : World} {base base' size n : Nat} {e : TypeId} {v : Value} {xs : List Value} (h : w.ownsRow base e size v n xs) (hb : base' ≤ base) : w.ownsRow base' e size v n xs :=
  ⟨h.1, h.2.elim Or.inl (fun ⟨g, cap, cur, hv, hg, r⟩ => Or.inr ⟨g, cap, cur, hv, Nat.le_trans hb hg, r⟩)⟩
theorem wpList_app {ops : Array Oper} {rest : List Oper} {o : Oper} {a : Act} {w : World} {Q : Exit → Act → World → Prop} (hgd : o.guard = none) (s x : Operand) (t u : TypeId) (ho : o.op = .call { callee := .builtin .append, args := #[s, x], argTypes := #[t, u] }) (v y v' : Value) (w' : World) (hs : a.eval s = v) (hx : a.eval x = y)
    (hr : (Builtin.append_ #[t, u] o.type #[v, y]).run Tryd.prog w = .ok v' w') (h : wpList Tryd.prog ops Q rest (a.put o.dst v') w') : wpList Tryd.prog ops Q (o :: rest) a w := by
  refine wpList_plain hgd fun K hK => ?_
  unfold Oper.wp execOp
  simp only [ho, resolve, invoke, builtin, Sem.run_bind, Sem.run_pure, Result.andThen_ok, List.map_toArray, List.map_cons, List.map_nil, hs, hx, hr]
  exact hK _ _ h
theorem run_append_make (w : World) (ty : TypeId) (n : Nat) (h0 : 0 < n) (h : n ≤ 1000000000) :
    ∃ c W, (Builtin.append_ #[22, 3] ty #[.slice none 0 0, .int .i64 (n : Int)]).run Tryd.prog w = .ok (.slice (some ⟨w.heap.size, 0, none⟩) n c) W ∧ OwnB W w.heap.size (.slice (some ⟨w.heap.size, 0, none⟩) 0 c) [] ∧ Below w.heap.size w W := by
  obtain ⟨i0, hi, hz0, hz1, hz2⟩ := info_parts infoByte
  have hz : i0.zero = some (.int .u8 0) := hz0
  have hw : IntKind.i64.wrap (n : Int) = (n : Int) := IntWalk.i64_in _ (by omega)
  have hn : n ≠ 0 := by omega
  have n1 : ¬ ((n : Int) < 0) := by omega
  have n2 : ¬ (281474976710656 < (n : Int)) := by omega
  have h63' : ¬ (9223372036854775807 < (n : Int)) := by omega
  have h48' : ¬ (281474976710656 < Builtin.nextslicecap n 0) := by rw [nextslicecap_zero h0]; omega
  refine ⟨grownCap w n 0 5, w.drew.alloc (.cells (Builtin.zeroCells #[.int .u8 0] n ++ Builtin.zeroCells #[.int .u8 0] (grownCap w n 0 5 - n)) 5), ?_, ?_, ?_⟩
  · simp [Builtin.append_, run_underlying Tryd.underlying22, run_underlying Tryd.underlying3, sizeOf, typeInfo, zeroValue, hi, hz, hz1, hz2, asInt, asIntOf, hw, n1, n2, hn, h63', h48', Question.forced, run_firstCells_none, newRow, grownCap, Value.cells]
  · have hge := grownCap_ge w n 0 5
    refine ⟨rfl, .inr ⟨w.heap.size, _, _, rfl, Nat.le_refl _, heap_alloc_new w.drew _, Nat.zero_le _, grownCap_le_maxLen w n 0 _ (by unfold maxLen; omega), ?_, by simp⟩⟩
    simp only [Array.size_append, size_zeroCells]
    simp
    omega
  · exact ⟨rfl, rfl, rfl, by simp, fun k hk => heap_alloc_old w.drew _ hk⟩

set_option maxRecDepth 100000 in
set_option maxHeartbeats 4000000 in
theorem grow_any (n : Nat) (h : n ≤ 1000000000) (w : World) :
    Calls Tryd.prog 86 #[.slice none 0 0, .int .i64 (n : Int)] w fun x w' => ∃ v, x = .returned v ∧ OwnB w' w.heap.size v [] ∧ Below w.heap.size w w' := by
  have hw : IntKind.i64.wrap (n : Int) = (n : Int) := IntWalk.i64_in _ (by omega)
  have n1 : ¬ ((n : Int) < 0) := by omega
  by_cases h0 : n = 0
  · subst h0
    clear h hw
    go_enter Tryd.func86, Tryd.ntmps86
    go_wp2_with fail
    go_ret
    exact ⟨_, rfl, World.ownsRow_nil _ _ _ _, Below.refl _ _⟩
  · have hp : (0 : Int) < (n : Int) := by omega
    obtain ⟨c, W, hr, ho, hb⟩ := run_append_make w 22 n (by omega) h
    have HR := hide hr; have HO := hide ho; have HB := hide hb
    clear hr ho hb h h0
    go_enter Tryd.func86, Tryd.ntmps86
    go_wp2_with (at_builtin; refine wpList_app rfl (.tmp 20) (.tmp 21) 22 3 rfl _ _ _ W rfl rfl (unhide HR) ?_)
    go_ret
    exact ⟨_, rfl, unhide HO, unhide HB⟩

theorem joined_le (ps : List Part) (k : Nat) : (joined (ps.take k)).length ≤ (joined ps).length := by
  have h : joined ps = joined (ps.take k) ++ joined (ps.drop k) := by
    unfold joined
    rw [← List.flatMap_append, List.take_append_drop]
  rw [h, List.length_append]
  omega

set_option maxRecDepth 100000 in
set_option maxHeartbeats 4000000 in
theorem concat_any (w : World) (pb po c : Nat) (ps : List Part) (hp : ∀ k p, ps[k]? = some p → w.cell? ⟨pb, po + k, none⟩ = some p.val) (ho : ∀ p ∈ ps, p.ok w ∧ (p.A = none → p.c = 0)) (hl : ps.length ≤ 1000) (hc : ps.length ≤ c) (ht : (joined ps).length ≤ 1000000000) :
    Calls Tryd.prog 67 #[.slice (some ⟨pb, po, none⟩) ps.length c] w fun x w' => ∃ v, x = .returned v ∧ OwnB w' w.heap.size v (joined ps) ∧ Below w.heap.size w w' := by
  have HP := hide hp; have HO := hide ho
  obtain ⟨n, hn⟩ : ∃ n, n = ps.length := ⟨_, rfl⟩
  have HN : Hid (n = ps.length ∧ n ≤ 1000 ∧ n ≤ c ∧ (joined ps).length ≤ 1000000000) := ⟨hn, by omega, by omega, ht⟩
  rw [← hn] at hc ⊢
  have hnc : (n : Int) ≤ (c : Int) := by omega
  clear hp ho hn hl hc ht
  go_enter Tryd.func67, Tryd.ntmps67
  go_wp2_with fail
  go_loopg [3, 11] n (fun g y3 y11 wx => ∃ k : Nat, g + k = n ∧ y11 = .int .i64 (k : Int) ∧ y3 = .int .i64 (((joined (ps.take k)).length : Nat) : Int) ∧ Below w.heap.size w wx)
  case atStart => exact ⟨0, rfl, rfl, by simp [joined], Below.refl _ _⟩
  case round =>
    obtain ⟨k, hk, rfl, rfl, hB⟩ := hrel
    have HB := hide hB
    cases gk with
    | zero =>
      have hk5 : k = n := by omega
      subst hk5
      have hkk : ¬ (k : Int) < (k : Int) := by omega
      have hm : joined (ps.take k) = joined ps := by rw [List.take_of_length_le (Nat.le_of_eq (unhide HN).1.symm)]
      rw [hm]
      obtain ⟨s, hs⟩ : ∃ s, s = (joined ps).length := ⟨_, rfl⟩
      rw [← hs]
      have HS : Hid (s = (joined ps).length) := hs
      have hg := grow_any s (by have := unhide HN; omega) wr
      have HG := hide hg
      clear hB hs hm hk hg
      go_wp2_with fail
      refine (unhide HG).mono ?_; rintro x w1 ⟨v, rfl, ho, hb⟩
      have HO1 := hide (show OwnB w1 w.heap.size v [] from own_le ho (unhide HB).size)
      have HB1 := hide (thenB (unhide HB) hb)
      clear ho hb
      go_wp2_with fail
      go_loopg [6, 27] k (fun g y6 y27 wx => ∃ (i : Nat) (u : Value), g + i = k ∧ y27 = .int .i64 (i : Int) ∧ y6 = u ∧ OwnB wx w.heap.size u (joined (ps.take i)) ∧ Below w.heap.size w wx)
      case atStart => exact ⟨0, v, rfl, rfl, rfl, by simpa [joined] using unhide HO1, unhide HB1⟩
      case round =>
        obtain ⟨i, u, hi, rfl, rfl, hou, hbu⟩ := hrel
        have HOU := hide hou; have HBU := hide hbu
        cases gk with
        | zero =>
          have hi5 : i = k := by omega
          subst hi5
          clear hou hbu hi
          go_wp2_with fail
          go_ret
          rw [List.take_of_length_le (Nat.le_of_eq (unhide HN).1.symm)] at HOU
          exact ⟨_, rfl, unhide HOU, unhide HBU⟩
        | succ g =>
          have hikn : i < ps.length := by have := unhide HN; omega
          have hlt : (i : Int) < (k : Int) := by omega
          have hi0 : (0 : Int) ≤ (i : Int) := Int.natCast_nonneg _
          have hiM : (i : Int) ≤ 1000 := by have := unhide HN; omega
          obtain ⟨p, hpk⟩ : ∃ p, ps[i]? = some p := ⟨_, List.getElem?_eq_getElem hikn⟩
          have hpo := (unhide HO) p (List.mem_of_getElem? hpk)
          have hc := (unhide HP) i p hpk
          rw [← hbu.cell (p := ⟨pb, po + i, none⟩) (lt_of_cell hc)] at hc
          have hj := joined_take ps i p hpk
          have hjl := joined_le ps (i + 1)
          rw [hj, List.length_append] at hjl
          obtain ⟨v2, W2, hr2, ho2, hg2⟩ := run_append_B hou 22 p.A p.c (hpo.1.1.keep hbu) hpo.2 (by have := unhide HN; omega) hbu.size
          rw [← hj] at ho2
          have HR2 := hide hr2; have HO2 := hide ho2; have HB2 := hide (grown_below hbu hg2 (fun q hq => (hou.lt q hq).1))
          have HI : Hid (g + 1 + i = k) := hi
          clear hou hbu hi hikn hpk hpo hj hjl hr2 ho2 hg2
          unfold Part.val at hc
          go_wp2_with (at_builtin; refine wpList_app rfl (.tmp 31) (.tmp 32) 22 22 rfl _ _ v2 W2 rfl rfl (unhide HR2) ?_)
          go_roundg g
          case measure => omega
          case rel => exact ⟨i + 1, v2, by have := unhide HI; omega, by push_cast; rfl, rfl, unhide HO2, unhide HB2⟩
    | succ g =>
      have hkn : k < ps.length := by have := unhide HN; omega
      have hyt : (k : Int) < (n : Int) := by omega
      have hyM : (k : Int) ≤ 1000 := by have := unhide HN; omega
      have hy0 : (0 : Int) ≤ (k : Int) := Int.natCast_nonneg _
      obtain ⟨p, hpk⟩ : ∃ p, ps[k]? = some p := ⟨_, List.getElem?_eq_getElem hkn⟩
      have hc := (unhide HP) k p hpk
      rw [← hB.cell (p := ⟨pb, po + k, none⟩) (lt_of_cell hc)] at hc
      have hj := joined_take ps k p hpk
      have hjl := joined_le ps (k + 1)
      obtain ⟨s1, hs1⟩ : ∃ s, s = (joined (ps.take (k + 1))).length := ⟨_, rfl⟩
      obtain ⟨s0, hs0⟩ : ∃ s, s = (joined (ps.take k)).length := ⟨_, rfl⟩
      have hsum : s1 = s0 + p.l.length := by rw [hs1, hs0, hj, List.length_append]
      rw [← hs0]
      have ws : IntKind.i64.wrap ((s0 : Int) + (p.l.length : Int)) = (s1 : Int) := (IntWalk.i64_in _ (by have := unhide HN; omega)).trans (by omega)
      have hnn : ¬ ((s1 : Int) < 0) := by omega
      have HS1 : Hid (s1 = (joined (ps.take (k + 1))).length ∧ g + 1 + k = n) := ⟨hs1, hk⟩
      clear hB hk hpk hkn hj hjl hs1 hs0 hsum
      unfold Part.val at hc
      go_wp2_with fail
      go_roundg g
      case measure => omega
      case rel => exact ⟨k + 1, by have := unhide HS1; omega, by push_cast; rfl, by rw [← (unhide HS1).1], unhide HB⟩
end Go.Proofs.YtceppmajbkmbdaaDoor
namespace Go.Proofs.YtceppmajbkmbdaaDoor
set_option linter.unusedSimpArgs false
set_option linter.unusedVariables false
open Go.RowKit

/-- a block of values -/
def VsAt (w : World) (b : Nat) (t : TypeId) (cs : List Value) : Prop := w.heap[b]? = some (.cells cs.toArray t (0, 0))
theorem VsAt.keep {w w' : World} {b : Nat} {t : TypeId} {cs : List Value} (h : VsAt w b t cs) (hb : Below w.heap.size w w') : VsAt w' b t cs := (hb.block b (lt_of_block h)).trans h
theorem VsAt.grown {w w' : World} {b : Nat} {r : Option Nat} {t : TypeId} {cs : List Value} (h : VsAt w b t cs) (hb : w.grownBy w' r) (hne : r ≠ some b) : VsAt w' b t cs := (hb.block b (lt_of_block h) (fun e => hne e.symm)).trans h
theorem VsAt.cell {w : World} {b : Nat} {t : TypeId} {cs : List Value} (h : VsAt w b t cs) {j : Nat} {v : Value} (hj : cs[j]? = some v) : w.cell? ⟨b, j, none⟩ = some v := by
  unfold VsAt at h
  simp [World.cell?, h, hj]
theorem VsAt.free {w : World} {b : Nat} {t : TypeId} {cs : List Value} (h : VsAt w b t cs) (j : Nat) : w.frozen? ⟨b, j, none⟩ = false := by
  unfold VsAt at h
  simp [World.frozen?, h]
theorem VsAt.range {w : World} {b : Nat} {t : TypeId} {cs : List Value} (h : VsAt w b t cs) : w.rangeAt b 0 cs := fun j v hv => by rw [Nat.zero_add]; exact h.cell hv
theorem VsAt.mid {w : World} {b : Nat} {t : TypeId} {cs : List Value} (h : VsAt w b t cs) (o : Nat) (l : List Value) (he : ∀ j v, l[j]? = some v → cs[o + j]? = some v) : w.rangeAt b o l := fun j v hv => h.cell (he j v hv)
theorem VsAt.set {w : World} {b : Nat} {t : TypeId} {cs : List Value} (h : VsAt w b t cs) (j : Nat) (v : Value) : VsAt (w.setCell ⟨b, j, none⟩ v) b t (cs.set j v) := by
  unfold VsAt
  rw [box_put h, List.setIfInBounds_toArray]
theorem splice_stepV (B cs : List Value) (c : Value) (m : Nat) (h : m + (cs.length + 1) ≤ B.length) :
    (B.set m c).take (m + 1) ++ (cs ++ (B.set m c).drop (m + 1 + cs.length)) = B.take m ++ (c :: cs ++ B.drop (m + (cs.length + 1))) := by
  have e1 : (B.set m c).take (m + 1) = B.take m ++ [c] := by
    apply List.ext_getElem?
    intro j
    rw [List.getElem?_take, List.getElem?_set, List.getElem?_append, List.length_take, List.getElem?_take, Nat.min_eq_left (by omega)]
    by_cases hj : j < m
    · rw [if_pos (by omega), if_neg (by omega), if_pos hj, if_pos hj]
    · by_cases hj2 : j = m
      · subst hj2; simp; omega
      · rw [if_neg (by omega), if_neg hj, List.getElem?_eq_none (by simp; omega)]
  have e2 : (B.set m c).drop (m + 1 + cs.length) = B.drop (m + (cs.length + 1)) := by
    apply List.ext_getElem?
    intro j
    rw [List.getElem?_drop, List.getElem?_drop, List.getElem?_set, if_neg (by omega)]
    congr 1
    omega
  rw [e1, e2]
  simp
def spliceV (B vs : List Value) (m : Nat) : List Value := B.take m ++ (vs ++ B.drop (m + vs.length))
theorem VsAt.setCells {N : Nat} {t : TypeId} : ∀ (vs : List Value) (m : Nat) (w : World) (B : List Value), VsAt w N t B → m + vs.length ≤ B.length → VsAt (w.setCells N m vs) N t (spliceV B vs m)
  | [], m, w, B, h, _ => by
    have e : w.setCells N m [] = w := rfl
    rw [e]; simpa [spliceV] using h
  | c :: cs, m, w, B, h, hm => by
    simp only [List.length_cons] at hm
    have h2 := VsAt.setCells cs (m + 1) _ _ (h.set m c) (by simp; omega)
    simp only [World.setCells]
    unfold spliceV at h2 ⊢
    rw [splice_stepV B cs c m hm] at h2
    simpa using h2
theorem spliceV_all (B vs : List Value) (h : vs.length = B.length) : spliceV B vs 0 = vs := by
  unfold spliceV
  rw [List.take_zero, List.nil_append, Nat.zero_add, List.drop_eq_nil_of_le (by omega), List.append_nil]
theorem VsAt.there {w : World} {b : Nat} {t : TypeId} {cs : List Value} (h : VsAt w b t cs) (o n : Nat) (hn : o + n ≤ cs.length) : w.there b o n := fun j hj =>
  ⟨by rw [h.cell (List.getElem?_eq_getElem (by omega : o + j < cs.length))]; rfl, h.free _⟩
theorem ByAt.vs {w : World} {b : Nat} {t : TypeId} {l : List Int} (h : ByAt w b t l) : VsAt w b t (l.map (Value.int .u8)) := h
/-- a store into a part of a block (or all of it) -/
theorem wpList_vput {P : Program} {ops : Array Oper} {rest : List Oper} {o : Oper} {a : Act} {w : World} {Q : Exit → Act → World → Prop} (hgd : o.guard = none) (ty : TypeId) (x y : Operand) (ho : o.op = .store ty x y)
    (N m : Nat) (hx : a.eval x = .pointer (some ⟨N, m, none⟩)) (vs : List Value) (hy : a.eval y = .agg vs.toArray) (hi : (P.info? ty).map (·.size) = some vs.length) (h1 : ∀ v ∈ vs, v.oneCell' = true) (T : TypeId) (B : List Value) (h0 : VsAt w N T B) (hm : m + vs.length ≤ B.length)
    (h : ∀ W, Hid (VsAt W N T (spliceV B vs m)) → Hid (w.grownBy W (some N)) → wpList P ops Q rest (a.put o.dst undef) W) : wpList P ops Q (o :: rest) a w :=
  wpList_store_mid hgd ty x y ho N m vs.toArray hx hy (by simpa using h0.there m vs.length hm) (by simpa using hi) (all_oneCell_toArray h1) (h _ (hide (by simpa using h0.setCells vs m w B hm)) (hide (by simpa using grownSetCells N vs m w)))
theorem vret {fn : Func} {R : Ending → World → Prop} {a : Act} {w : World} {t : Tmp} {ty : TypeId} (h : fn.results = #[.cell t ty]) (hd : a.defers = []) (N : Nat) (hp : a.tmps.getD t undef = .pointer (some ⟨N, 0, none⟩)) (T : TypeId) (cs : List Value) (h0 : VsAt w N T cs) (d : TypeDesc) (hu : Tryd.prog.underlying ty = some d) (hr : d.isRow = true) (hi : (Tryd.prog.info? ty).map (·.size) = some cs.length) (hR : R (.returned (.agg cs.toArray)) w) :
    bodyPost Tryd.prog fn R .ret a w :=
  bodyPost_ret (v := .agg cs.toArray) (results_cell_mid h _ _ N cs _ hp h0.range hu hr hi) hd hR
theorem boxedV (w W : World) (cs : List Value) (t : TypeId) (hW : W.heap = w.heap.push (.cells cs.toArray t (0, 0))) : VsAt W w.heap.size t cs := by
  show W.heap[w.heap.size]? = _
  rw [hW, Array.getElem?_push_size]

theorem own_formB {w : World} {base : Nat} {v : Value} {l : List Int} (h : OwnB w base v l) (hb : ∀ c ∈ l, Byt c) : ∃ A c, v = .slice A l.length c ∧ l.length ≤ c ∧ Bt w A l ∧ (A = none → c = 0) ∧ ∀ a, A = some a → base ≤ a.block := by
  have hh := h
  rcases h.2 with ⟨rfl, h0⟩ | ⟨g, cap, cur, rfl, hbg, hg, h1, h2, h3, h4⟩
  · obtain rfl := List.length_eq_zero_iff.1 h0
    exact ⟨none, 0, rfl, Nat.le_refl _, Bt.nil, fun _ => rfl, fun a h => by cases h⟩
  · skip
    obtain ⟨A, c, e, h5, h6⟩ := OwnB.bt hh hb
    injection e with e1 e2 e3
    subst e1 e3
    refine ⟨_, _, rfl, h5, h6, (fun h => by cases h), (fun a h => ?_)⟩
    injection h with h
    subst h
    exact hbg
theorem joined_byt {w : World} {ps : List Part} (h : ∀ p ∈ ps, p.ok w) : ∀ c ∈ joined ps, Byt c := fun c hc => by
  obtain ⟨p, hp, hm⟩ := List.mem_flatMap.1 hc
  exact (h p hp).1.byt c hm
/-- the parts are joined -/
def JoinIs (w : World) (l : List Int) (x : Ending) (w' : World) : Prop := ∃ A c, x = .returned (.slice A l.length c) ∧ l.length ≤ c ∧ Bt w' A l ∧ (A = none → c = 0) ∧ (∀ a, A = some a → w.heap.size ≤ a.block) ∧ Below w.heap.size w w'
theorem concat_new (w : World) (ps : List Part) (t : TypeId) (ho : ∀ p ∈ ps, p.ok w ∧ (p.A = none → p.c = 0)) (hl : ps.length ≤ 1000) (ht : (joined ps).length ≤ 1000000000) :
    Calls Tryd.prog 67 #[.slice (some ⟨w.heap.size, 0, none⟩) ps.length ps.length] (w.alloc (.cells (ps.map Part.val).toArray t (0, 0))) (JoinIs w (joined ps)) := by
  have hB : Below w.heap.size w (w.alloc (.cells (ps.map Part.val).toArray t (0, 0))) := (Below.refl _ _).alloc (Nat.le_refl _) _
  refine (concat_any _ w.heap.size 0 ps.length ps (fun k p hk => ?_) (fun p hp => ⟨(ho p hp).1.keep hB, (ho p hp).2⟩) hl (Nat.le_refl _) ht).mono ?_
  · rw [Nat.zero_add]
    have e : (w.alloc (.cells (ps.map Part.val).toArray t (0, 0))).heap[w.heap.size]? = some (.cells (ps.map Part.val).toArray t (0, 0)) := by
      show (w.heap.push _)[w.heap.size]? = _
      rw [Array.getElem?_push_size]
    simp only [World.cell?, e]
    simp [hk]
  · rintro e w' ⟨v, rfl, ho1, h⟩
    obtain ⟨A, c, rfl, h1, h2, h3, h4⟩ := own_formB ho1 (joined_byt fun p hp => (ho p hp).1)
    exact ⟨A, c, rfl, h1, h2, h3, fun a ha => Nat.le_trans hB.size (h4 a ha), hB.trans (h.mono hB.size)⟩

/-- what is appended to a slice without room goes into a copy -/
theorem run_append_copy (w : World) (ty : TypeId) (A : Option Addr) (B : List Int) (n : Nat) (hn : n = B.length) (h0 : 0 < n) (h6 : n ≤ 1000000) (hA : Bt w A B) (N m c : Nat) (t : TypeId) (l : List Int) (hl : ByAt w N t l) (hlb : ∀ c ∈ l, Byt c) (hm : m = l.length) (hm0 : 0 < m) (hm6 : m ≤ 1000000) :
    ∃ k W, (Builtin.append_ #[22, 22] ty #[.slice A n n, .slice (some ⟨N, 0, none⟩) m c]).run Tryd.prog w = .ok (.slice (some ⟨w.heap.size, 0, none⟩) (n + m) k) W ∧ n + m ≤ k ∧ Bt W (some ⟨w.heap.size, 0, none⟩) (B ++ l) ∧ Below w.heap.size w W := by
  obtain ⟨i0, hi, hz0, hz1, hz2⟩ := info_parts infoByte
  subst hn hm
  obtain ⟨b, o, rfl, hc⟩ := hA.at_ (fun e => by rw [e] at h0; simp at h0)
  have hlv : Bt w (some ⟨N, 0, none⟩) l := ⟨hlb, fun _ => ⟨N, 0, rfl, fun j hj => by rw [Nat.zero_add]; exact hl.cell hj⟩⟩
  have hr := run_append_grow (P := Tryd.prog) w 22 ty 5 i0 (.int .u8 0) Tryd.underlying22 hi hz0 ⟨b, o, none⟩ B.length B.length (B.map (Value.int .u8)) (by simp [hz1]) hA.news ⟨N, 0, none⟩ l.length c (l.map (Value.int .u8)) (by simp [hz1]) hlv.news (by omega) (by omega) (by rw [hz2, Nat.mul_one]; exact Nat.le_trans (nextslicecap_le (by omega)) (by omega))
  refine ⟨_, _, hr, grownCap_ge _ _ _ _, ⟨fun x hx => ?_, fun _ => ⟨_, 0, rfl, fun j hj => ?_⟩⟩, ⟨rfl, rfl, rfl, by simp, fun k hk => heap_alloc_old w.drew _ hk⟩⟩
  · rcases List.mem_append.1 hx with h | h
    · exact hA.byt x h
    · exact hlb x h
  · rw [Nat.zero_add]
    have e := cell_of_row _ w.heap.size j _ _ (0, 0) (heap_alloc_new w.drew (.cells ((B.map (Value.int .u8)).toArray ++ (l.map (Value.int .u8)).toArray ++ Builtin.zeroCells (Value.int .u8 0).cells (grownCap w (B.length + l.length) B.length 5 - (B.length + l.length))) 5))
    refine Eq.trans e ?_
    rw [List.length_append] at hj
    rw [← Array.getElem?_toList, Array.toList_append, Array.toList_append, List.append_assoc, ← List.append_assoc, List.getElem?_append_left (by simp; omega)]
    rw [← List.map_append, List.getElem?_map, List.getD_eq_getElem?_getD, List.getElem?_eq_getElem (by simp; omega)]
    rfl

def otkL (A : Option Addr) (n : Nat) (T : List Int) : List Value := .slice A n n :: T.map (Value.int .u8)
def otkV (A : Option Addr) (n : Nat) (T : List Int) : Value := .agg (otkL A n T).toArray
theorem otkL_length (A : Option Addr) (n : Nat) (T : List Int) (h : T.length = 32) : (otkL A n T).length = 33 := by simp [otkL, h]
theorem otkL_one (A : Option Addr) (n : Nat) (T : List Int) : ∀ v ∈ otkL A n T, v.oneCell' = true := fun v hv => by
  rcases List.mem_cons.1 hv with rfl | h
  · rfl
  · exact one_bytes T v h
theorem info33 : (Tryd.prog.info? 83).map (·.size) = some 33 := by kernel_rfl
theorem info2 : (Tryd.prog.info? 86).map (·.size) = some 2 := by kernel_rfl
/-- a one-time key at hand: what a secret is the hash of, up to its place; the hash of the tag -/
structure Otk (w : World) (A : Option Addr) (n : Nat) (B T : List Int) : Prop where
  len : n = B.length
  pos : 0 < n
  few : n ≤ 1000000
  at_ : Bt w A B
  tag : Dg T
theorem Otk.keep {w w' : World} {A : Option Addr} {n : Nat} {B T : List Int} (h : Otk w A n B T) (hb : Below w.heap.size w w') : Otk w' A n B T := ⟨h.len, h.pos, h.few, h.at_.keep hb, h.tag⟩

set_option maxRecDepth 100000 in
set_option maxHeartbeats 4000000 in
theorem secret_any (w : World) (A : Option Addr) (n : Nat) (B T : List Int) (hK : Otk w A n B T) (p q : Int) (hp : Byt p) (hq : Byt q) (hT : DTab w) :
    Calls Tryd.prog 74 #[otkV A n T, dv [p, q]] w fun x w' => x = .returned (dv (hashF (B ++ [p, q]))) ∧ Below w.heap.size w w' := by
  have HT := hide hT; have HK := hide hK
  have HPQ : Hid (∀ c ∈ [p, q], Byt c) := fun c hc => by
    simp only [List.mem_cons, List.not_mem_nil, or_false] at hc
    rcases hc with rfl | rfl <;> assumption
  unfold otkV
  obtain ⟨ck, hck⟩ : ∃ cs, cs = (otkL A n T).toArray := ⟨_, rfl⟩
  have hsk : ck.size = 33 := by rw [hck]; simpa using otkL_length A n T hK.tag.len
  rw [← hck]
  clear hT hK hp hq
  go_enter Tryd.func74, Tryd.ntmps74
  go_upto_region 1 with fail
  generalize hX1 : w.alloc _ = W1
  have hB1 : Below w.heap.size w W1 := hX1 ▸ (Below.refl _ _).alloc (Nat.le_refl _) _
  have ho1 : VsAt W1 w.heap.size 83 (otkL A n T) := boxedV w W1 _ _ (by rw [← hX1, ← hck]; rfl)
  have hz1 : W1.heap.size = w.heap.size + 1 := by rw [← hX1]; show (w.heap.push _).size = _; rw [Array.size_push]
  generalize hX2 : W1.alloc _ = W2
  have hB2 : Below W1.heap.size W1 W2 := hX2 ▸ (Below.refl _ _).alloc (Nat.le_refl _) _
  have ho2 : ByAt W2 W1.heap.size 86 [p, q] := boxed W1 W2 _ _ (by rw [← hX2]; rfl)
  have hz2 : W2.heap.size = w.heap.size + 2 := by rw [← hX2]; show (W1.heap.push _).size = _; rw [Array.size_push]; omega
  generalize hX3 : W2.alloc _ = W3
  have hB3 : Below W2.heap.size W2 W3 := hX3 ▸ (Below.refl _ _).alloc (Nat.le_refl _) _
  have ho3 : ByAt W3 W2.heap.size 24 zeros := newBy W2 W3 (by rw [← hX3]; rfl)
  have hz3 : W3.heap.size = w.heap.size + 3 := by rw [← hX3]; show (W2.heap.push _).size = _; rw [Array.size_push]; omega
  have hB : Below w.heap.size w W3 := (thenB (thenB hB1 hB2) hB3)
  have hk1 := ((ho1.keep hB2).keep hB3)
  have hk2 := (ho2.keep hB3)
  rw [hz1] at hk2
  have hk3 := ho3
  rw [hz2] at hk3
  obtain ⟨W, hW⟩ : ∃ W, W = W3.drewN 1 := ⟨_, rfl⟩
  have HW : Hid (W = W3.drewN 1) := hW
  have hc0 : W.cell? ⟨w.heap.size, 0, none⟩ = some (.slice A n n) := (hk1.keep (below_named HW)).cell rfl
  have HK2 := hide (hk2.keep (below_named HW))
  have HK3 := hide (hk3.keep (below_named HW))
  have HB := hide (thenB hB (below_named HW))
  clear hW hB hX1 hB1 ho1 hz1 hk1 hX2 hB2 ho2 hz2 hk2 hX3 hB3 ho3 hz3 hk3 hck
  refine still_drew 3 W HW (by kernel_rfl) (by kernel_rfl) ?_
  simp only [List.take_succ_cons, List.take_zero, List.drop_succ_cons, List.drop_zero]
  repeat still_step
  refine wpStill_nil ?_
  have hKW := (unhide HK).keep (unhide HB)
  obtain ⟨k, W4, hr, hk, hbt, hB4⟩ := run_append_copy W 22 A B n hKW.len hKW.pos hKW.few hKW.at_ (w.heap.size + 1) 2 2 86 [p, q] (unhide HK2) (unhide HPQ) rfl (by decide) (by decide)
  have HB4 := hide (thenB (unhide HB) hB4)
  have HO4 := hide ((unhide HK3).keep hB4)
  have hsm := sum_any W4 (some ⟨W.heap.size, 0, none⟩) k (B ++ [p, q]) hbt (by rw [List.length_append, ← hKW.len]; exact hk) ((unhide HT).keep (unhide HB4))
  rw [List.length_append, ← hKW.len] at hsm
  have HSM := hide hsm; have HR := hide hr
  clear hKW hr hk hbt hB4 hsm HK2 HK3 HB
  refine wpList_app rfl (.tmp 6) (.tmp 7) 22 22 rfl _ _ _ W4 rfl rfl (unhide HR) ?_
  go_wp2_with fail
  refine (unhide HSM).mono ?_; rintro x W5 ⟨rfl, hB5⟩
  have HB5 := hide (thenB (unhide HB4) hB5)
  have HO5 := hide ((unhide HO4).keep hB5)
  clear hB5 HB4 HO4
  dsimp only
  rename_i KK hK
  refine hK _ _ ?_
  clear hK KK
  refine wpList_bstore rfl 24 (.tmp 4) (.tmp 9) rfl (w.heap.size + 2) rfl (hashF (B ++ [p, q])) rfl 32 info32 (hashF_length _) _ zeros (unhide HO5) rfl ?_
  intro W9 HW9 HG
  go_wp2_with fail
  try simp only [Exit.inBlock, Exit.then]
  exact bret rfl rfl (w.heap.size + 2) rfl _ _ (unhide HW9) (hashF_length _) ⟨rfl, (unhide HB5).grown (unhide HG) (unhide HB5).size (fun i e => by injection e with e; omega)⟩
end Go.Proofs.YtceppmajbkmbdaaDoor
namespace Go.Proofs.YtceppmajbkmbdaaDoor
set_option linter.unusedSimpArgs false
set_option linter.unusedVariables false
open Go.RowKit

theorem byt_nat (n : Nat) (h : n < 256) : Byt (n : Int) := ⟨by omega, by omega⟩
set_option maxRecDepth 100000 in
set_option maxHeartbeats 4000000 in
theorem other_any (p : Int) (b : Nat) (hb : b ≤ 1) (w : World) :
    Calls Tryd.prog 76 #[dv [p, (b : Int)]] w fun x w' => x = .returned (dv [p, ((1 - b : Nat) : Int)]) ∧ Below w.heap.size w w' := by
  obtain ⟨r, hr⟩ : ∃ r, r = 1 - b := ⟨_, rfl⟩
  have hw : IntKind.u8.wrap (1 - (b : Int)) = (r : Int) := by rw [IntKind.wrap_u8]; omega
  rw [← hr]
  clear hr hb
  go_enter Tryd.func76, Tryd.ntmps76
  go_upto_region 1 with fail
  generalize hX1 : w.alloc _ = W1
  have hB1 : Below w.heap.size w W1 := hX1 ▸ (Below.refl _ _).alloc (Nat.le_refl _) _
  have ho1 : ByAt W1 w.heap.size 86 [p, (b : Int)] := boxed w W1 _ _ (by rw [← hX1]; rfl)
  have hz1 : W1.heap.size = w.heap.size + 1 := by rw [← hX1]; show (w.heap.push _).size = _; rw [Array.size_push]
  generalize hX2 : W1.alloc _ = W2
  have hB2 : Below W1.heap.size W1 W2 := hX2 ▸ (Below.refl _ _).alloc (Nat.le_refl _) _
  have ho2 : ByAt W2 W1.heap.size 86 [0, 0] := boxed W1 W2 _ _ (by rw [← hX2]; rfl)
  have hk1 := ho1.keep hB2
  rw [hz1] at ho2
  have hc0 := hk1.cell (j := 0) (by simp)
  have hc1 := hk1.cell (j := 1) (by simp)
  simp only [List.getD_cons_zero, List.getD_cons_succ] at hc0 hc1
  have HO2 := hide ho2
  have HB := hide (thenB hB1 hB2)
  clear hX1 hB1 ho1 hz1 hX2 hB2 ho2 hk1
  refine wp_region_lit ?_
  refine wpList_plain rfl fun Kt hKt => ?_
  go_simp
  refine hKt _ _ ?_
  clear hKt Kt
  refine wpList_plain rfl fun Kt hKt => ?_
  go_simp
  refine hKt _ _ ?_
  clear hKt Kt
  refine wpList_plain rfl fun Kt hKt => ?_
  go_simp
  refine hKt _ _ ?_
  clear hKt Kt
  refine wpList_plain rfl fun Kt hKt => ?_
  go_simp
  refine hKt _ _ ?_
  clear hKt Kt
  refine wpList_plain rfl fun Kt hKt => ?_
  go_simp
  refine hKt _ _ ?_
  clear hKt Kt
  refine wpList_plain rfl fun Kt hKt => ?_
  go_simp
  refine hKt _ _ ?_
  clear hKt Kt
  refine wpList_bstore rfl 86 (.tmp 2) (.tmp 8) rfl (w.heap.size + 1) rfl [p, (r : Int)] rfl 2 info2 rfl _ [0, 0] (unhide HO2) rfl ?_
  intro W9 HW9 HG
  go_wp2_with fail
  try simp only [Exit.inBlock, Exit.then]
  exact vret rfl rfl (w.heap.size + 1) rfl _ _ (unhide HW9) _ Tryd.underlying86 rfl info2 ⟨rfl, (unhide HB).grown (unhide HG) (unhide HB).size (fun i e => by injection e with e; omega)⟩

set_option maxRecDepth 100000 in
set_option maxHeartbeats 4000000 in
theorem clip_any (b o n c : Nat) (hc : n ≤ c) (w : World) :
    Calls Tryd.prog 87 #[.slice (some ⟨b, o, none⟩) n c] w fun x w' => x = .returned (.slice (some ⟨b, o, none⟩) n n) ∧ w' = w := by
  have h1 : (n : Int) ≤ (c : Int) := by omega
  have h0 : (0 : Int) ≤ (n : Int) := by omega
  clear hc
  go_enter Tryd.func87, Tryd.ntmps87
  go_wp2_with fail
  go_ret
  exact ⟨rfl, rfl⟩

theorem fill_splice (place : Nat → Option (Nat × Nat)) (cells : Array Value) (i : Nat) (v : Value) (rest : List (Nat × Value)) (off s : Nat) (hp : place i = some (off, s)) (hs : v.cells.size = s) (ho : off + s ≤ cells.size) :
    Instr.fill place cells ((i, v) :: rest) = Instr.fill place (spliceV cells.toList v.cells.toList off).toArray rest := by
  obtain ⟨g1, g2⟩ := Great.foldl_set off v.cells.toList 0 cells
  have e : (v.cells.zipIdx.foldl (fun cs (x : Value × Nat) => cs.setIfInBounds (off + x.2) x.1) cells) = (spliceV cells.toList v.cells.toList off).toArray := by
    rw [← Array.foldl_toList, Array.toList_zipIdx]
    apply Array.ext_getElem?
    intro k
    rw [g2 k]
    unfold spliceV
    simp only [Nat.add_zero, Array.length_toList, hs, List.getElem?_toArray]
    by_cases hk : k < off
    · rw [if_neg (by omega), List.getElem?_append_left (by simp; omega), List.getElem?_take, if_pos hk, Array.getElem?_toList]
    · rw [List.getElem?_append_right (by simp; omega)]
      have hl : (cells.toList.take off).length = off := by simp; omega
      rw [hl]
      by_cases hk2 : k < off + s
      · rw [if_pos ⟨by omega, hk2, by omega⟩, List.getElem?_append_left (by simp; omega)]
      · rw [if_neg (by omega), List.getElem?_append_right (by simp; omega), List.getElem?_drop]
        simp only [Array.length_toList, hs, Array.getElem?_toList]
        congr 1
        omega
  rw [Instr.fill]
  simp only [hp, hs]
  rw [if_neg (by simp; omega)]
  congr 1
theorem built_otk (A : Option Addr) (n : Nat) (T : List Int) (hT : T.length = 32) : Tryd.prog.built 83 [(0, .slice A n n), (1, dv T)] = some (otkL A n T).toArray := by
  have e : Tryd.prog.built 83 [(0, .slice A n n), (1, dv T)] = Instr.fill ([(0, 1), (1, 32)].toArray[·]?) (Value.slice none 0 0 :: List.replicate 32 (Value.int .u8 0)).toArray [(0, .slice A n n), (1, dv T)] := by kernel_rfl
  rw [e, fill_splice _ _ 0 _ _ 0 1 rfl rfl (by simp), fill_splice _ _ 1 _ _ 1 32 rfl (by simpa [Value.cells] using hT) (by simp [spliceV, Value.cells])]
  rw [Instr.fill]
  unfold otkL spliceV
  simp [Value.cells, hT]
theorem build_otk (A : Option Addr) (n : Nat) (T : List Int) (hT : T.length = 32) (w : World) : (Instr.build 83 #[(0, .slice A n n), (1, dv T)]).run Tryd.prog w = .ok (otkV A n T) w := run_build w _ _ _ (built_otk A n T hT)

set_option maxRecDepth 100000 in
set_option maxHeartbeats 4000000 in
theorem hash_any' (w : World) (A : Option Addr) (n : Nat) (B T : List Int) (hK : Otk w A n B T) (p q : Int) (hp : Byt p) (hq : Byt q) (hT : DTab w) :
    Calls Tryd.prog 75 #[otkV A n T, dv [p, q]] w fun x w' => x = .returned (dv (hashF (T ++ hashF (B ++ [p, q])))) ∧ Below w.heap.size w w' := by
  have HT := hide hT; have HK := hide hK
  have HPQ : Hid (Byt p ∧ Byt q) := ⟨hp, hq⟩
  unfold otkV
  obtain ⟨ck, hck⟩ : ∃ cs, cs = (otkL A n T).toArray := ⟨_, rfl⟩
  have hsk : ck.size = 33 := by rw [hck]; simpa using otkL_length A n T hK.tag.len
  rw [← hck]
  have HCK := hide hck
  clear hT hK hp hq
  go_enter Tryd.func75, Tryd.ntmps75
  go_upto_region 1 with fail
  generalize hX1 : w.alloc _ = W1
  have hB1 : Below w.heap.size w W1 := hX1 ▸ (Below.refl _ _).alloc (Nat.le_refl _) _
  have ho1 : VsAt W1 w.heap.size 83 (otkL A n T) := boxedV w W1 _ _ (by rw [← hX1, ← hck]; rfl)
  have hz1 : W1.heap.size = w.heap.size + 1 := by rw [← hX1]; show (w.heap.push _).size = _; rw [Array.size_push]
  generalize hX2 : W1.alloc _ = W2
  have hB2 : Below W1.heap.size W1 W2 := hX2 ▸ (Below.refl _ _).alloc (Nat.le_refl _) _
  have ho2 : ByAt W2 W1.heap.size 86 [p, q] := boxed W1 W2 _ _ (by rw [← hX2]; rfl)
  have hz2 : W2.heap.size = w.heap.size + 2 := by rw [← hX2]; show (W1.heap.push _).size = _; rw [Array.size_push]; omega
  generalize hX3 : W2.alloc _ = W3
  have hB3 : Below W2.heap.size W2 W3 := hX3 ▸ (Below.refl _ _).alloc (Nat.le_refl _) _
  have ho3 : ByAt W3 W2.heap.size 24 zeros := newBy W2 W3 (by rw [← hX3]; rfl)
  have hz3 : W3.heap.size = w.heap.size + 3 := by rw [← hX3]; show (W2.heap.push _).size = _; rw [Array.size_push]; omega
  have hk2 := (ho2.keep hB3)
  rw [hz1] at hk2
  have hk3 := ho3
  rw [hz2] at hk3
  have HK1 := hide ((ho1.keep hB2).keep hB3)
  have HK2 := hide hk2
  have HK3 := hide hk3
  have HB := hide (thenB (thenB hB1 hB2) hB3)
  have HZ : Hid (W3.heap.size = w.heap.size + 3) := hz3
  clear hX1 hB1 ho1 hz1 hX2 hB2 ho2 hz2 hk2 hX3 hB3 ho3 hz3 hk3 hck
  refine wp_region_lit ?_
  refine wpList_load_mid rfl 83 (.tmp 2) rfl w.heap.size 0 rfl (otkL A n T) _ (unhide HK1).range Tryd.underlying83 rfl (by rw [otkL_length A n T (unhide HK).tag.len]; exact info33) ?_
  rw [show Value.agg (otkL A n T).toArray = .agg ck by rw [unhide HCK]]
  try simp only [List.getElem_toArray, List.getElem_cons_zero, List.getElem_cons_succ, Act.put, List.setIfInBounds_toArray, List.set_cons_zero, List.set_cons_succ]
  refine wpList_load_mid rfl 86 (.tmp 3) rfl (w.heap.size + 1) 0 rfl [.int .u8 p, .int .u8 q] _ (unhide HK2).range Tryd.underlying86 rfl info2 ?_
  try simp only [List.getElem_toArray, List.getElem_cons_zero, List.getElem_cons_succ, Act.put, List.setIfInBounds_toArray, List.set_cons_zero, List.set_cons_succ]
  have hse := secret_any W3 A n B T ((unhide HK).keep (unhide HB)) p q (unhide HPQ).1 (unhide HPQ).2 ((unhide HT).keep (unhide HB))
  rw [show otkV A n T = .agg ck by rw [unhide HCK]; rfl] at hse
  have HSE := hide hse
  clear hse
  go_wp2_with fail
  refine (unhide HSE).mono ?_; rintro x W4 ⟨rfl, hB4⟩
  obtain ⟨S, hS⟩ : ∃ S, S = hashF (B ++ [p, q]) := ⟨_, rfl⟩
  have hgS : Dg S := hS ▸ dg_hash _
  obtain ⟨cs, hcs⟩ : ∃ cs, cs = (S.map (Value.int .u8)).toArray := ⟨_, rfl⟩
  have hss : cs.size = 32 := by rw [hcs]; simpa using hgS.len
  rw [← hS, show dv S = .agg cs by rw [hcs]]
  have HS := hide hS; have HGS := hide hgS; have HCS := hide hcs
  have HB4 := hide (thenB (unhide HB) hB4)
  have HA1 := hide ((unhide HK1).keep hB4)
  have HA3 := hide ((unhide HK3).keep hB4)
  have HZ4 : Hid (w.heap.size + 3 ≤ W4.heap.size) := by have := hB4.size; have := unhide HZ; exact (by omega : w.heap.size + 3 ≤ W4.heap.size)
  clear hS hgS hcs hB4 HSE HK1 HK2 HK3 HB HZ
  dsimp only
  rename_i KK hK
  refine hK _ _ ?_
  clear hK KK
  refine wpList_plain rfl fun Kt hKt => ?_
  go_simp
  refine hKt _ _ ?_
  clear hKt Kt
  generalize hX5 : W4.alloc _ = W5
  have hB5 : Below W4.heap.size W4 W5 := hX5 ▸ (Below.refl _ _).alloc (Nat.le_refl _) _
  have HO5 := hide (newBy W4 W5 (by rw [← hX5]; rfl))
  have HB5 := hide (thenB (unhide HB4) hB5)
  have HC1 := hide ((unhide HA1).keep hB5)
  have HC3 := hide ((unhide HA3).keep hB5)
  clear hX5 hB5 HA1 HA3 HB4
  refine wpList_bstore rfl 24 (.tmp 5) (.tmp 8) rfl W4.heap.size rfl S (show Value.agg cs = _ by rw [unhide HCS]) 32 info32 (unhide HGS).len _ zeros (unhide HO5) rfl ?_
  intro W6 HW6 HG6
  have HB6 := hide ((unhide HB5).grown (unhide HG6) (unhide HB5).size (fun i e => by injection e with e; have := unhide HZ4; omega))
  have HD1 := hide ((unhide HC1).grown (unhide HG6) (fun e => by injection e with e; have := unhide HZ4; omega))
  have HD3 := hide ((unhide HC3).grown (unhide HG6) (by have := unhide HZ4; omega))
  obtain ⟨N5, hN5⟩ : ∃ N, N = W4.heap.size := ⟨_, rfl⟩
  rw [← hN5] at HW6 ⊢
  have HN5 : Hid (w.heap.size + 3 ≤ N5) := by rw [hN5]; exact unhide HZ4
  clear hN5 HG6 HC1 HC3 HB5 HO5 HZ4
  try simp only [List.getElem_toArray, List.getElem_cons_zero, List.getElem_cons_succ, Act.put, List.setIfInBounds_toArray, List.set_cons_zero, List.set_cons_succ]
  go_upto_region 2 with fail
  obtain ⟨W, hW⟩ : ∃ W, W = W6.drewN 1 := ⟨_, rfl⟩
  have HW : Hid (W = W6.drewN 1) := hW
  have HE1 := hide ((unhide HD1).keep (below_named HW))
  have HE3 := hide ((unhide HD3).keep (below_named HW))
  have HE5 := hide ((unhide HW6).keep (below_named HW))
  have HBW := hide (thenB (unhide HB6) (below_named HW))
  clear hW HD1 HD3 HW6 HB6
  refine still_drew 3 W HW (by kernel_rfl) (by kernel_rfl) ?_
  simp only [List.take_succ_cons, List.take_zero, List.drop_succ_cons, List.drop_zero]
  repeat still_step
  refine wpStill_nil ?_
  have hT1 : Bt W (some ⟨w.heap.size, 1, none⟩) T := ⟨(unhide HK).tag.byt, fun _ => ⟨w.heap.size, 1, rfl, fun j hj => (unhide HE1).cell (by
    unfold otkL
    rw [show 1 + j = j + 1 by omega, List.getElem?_cons_succ, List.getElem?_map, List.getD_eq_getElem?_getD, List.getElem?_eq_getElem hj]
    rfl)⟩⟩
  have hpp : ∀ p ∈ ([⟨some ⟨w.heap.size, 1, none⟩, T, 32⟩, ⟨some ⟨N5, 0, none⟩, S, 32⟩] : List Part), p.ok W ∧ (p.A = none → p.c = 0) := fun p hp => by
    simp only [List.mem_cons, List.not_mem_nil, or_false] at hp
    rcases hp with rfl | rfl
    · exact ⟨⟨hT1, Nat.le_of_eq (unhide HK).tag.len⟩, fun h => by cases h⟩
    · exact ⟨⟨(unhide HE5).bt (unhide HGS), Nat.le_of_eq (unhide HGS).len⟩, fun h => by cases h⟩
  have hj : joined [⟨some ⟨w.heap.size, 1, none⟩, T, 32⟩, ⟨some ⟨N5, 0, none⟩, S, 32⟩] = T ++ S := by simp [joined]
  have hh := concat_new W [⟨some ⟨w.heap.size, 1, none⟩, T, 32⟩, ⟨some ⟨N5, 0, none⟩, S, 32⟩] 22 hpp (by simp) (by rw [hj, List.length_append, (unhide HK).tag.len, (unhide HGS).len]; omega)
  rw [hj] at hh
  simp only [List.map_cons, List.map_nil, Part.val, (unhide HGS).len, (unhide HK).tag.len] at hh
  have HH := hide hh
  clear hT1 hpp hj hh HE1 HE5
  go_wp2_with fail
  refine (unhide HH).mono ?_; rintro x W7 ⟨A7, c7, rfl, hc7, hb7, _, _, hB7⟩
  have HB7 := hide (thenB (unhide HBW) hB7)
  have hsm := sum_any W7 A7 c7 (T ++ S) hb7 hc7 ((unhide HT).keep (unhide HB7))
  have HO7 := hide ((unhide HE3).keep hB7)
  have HSM := hide hsm
  obtain ⟨l7, hl7⟩ : ∃ l, l = (T ++ S).length := ⟨_, rfl⟩
  rw [← hl7] at HSM ⊢
  clear hc7 hb7 hB7 hsm hl7 HH HE3 HBW
  go_wp2_with fail
  refine (unhide HSM).mono ?_; rintro x W8 ⟨rfl, hB8⟩
  have HB8 := hide (thenB (unhide HB7) hB8)
  have HO8 := hide ((unhide HO7).keep hB8)
  clear hB8 HB7 HO7
  dsimp only
  rename_i KK hK
  refine hK _ _ ?_
  clear hK KK
  refine wpList_bstore rfl 24 (.tmp 4) (.tmp 14) rfl (w.heap.size + 2) rfl (hashF (T ++ S)) rfl 32 info32 (hashF_length _) _ zeros (unhide HO8) rfl ?_
  intro W9 HW9 HG
  go_wp2_with fail
  try simp only [Exit.inBlock, Exit.then]
  exact bret rfl rfl (w.heap.size + 2) rfl _ _ (unhide HW9) (hashF_length _) ⟨by rw [unhide HS], (unhide HB8).grown (unhide HG) (unhide HB8).size (fun i e => by injection e with e; omega)⟩
end Go.Proofs.YtceppmajbkmbdaaDoor
namespace Go.Proofs.YtceppmajbkmbdaaDoor
set_option linter.unusedSimpArgs false
set_option linter.unusedVariables false
open Go.RowKit

theorem lit6 (w W : World) (a b c d e f : Int) (t : TypeId) (fr : Nat × Nat) (hW : W.heap = w.heap.push (.cells #[.int .u8 a, .int .u8 b, .int .u8 c, .int .u8 d, .int .u8 e, .int .u8 f] t fr)) (hb : ∀ x ∈ [a, b, c, d, e, f], Byt x) : Bt W (some ⟨w.heap.size, 0, none⟩) [a, b, c, d, e, f] := by
  refine ⟨hb, fun _ => ⟨_, 0, rfl, fun j hj => ?_⟩⟩
  have h : W.heap[w.heap.size]? = some (.cells #[.int .u8 a, .int .u8 b, .int .u8 c, .int .u8 d, .int .u8 e, .int .u8 f] t fr) := by rw [hW, Array.getElem?_push_size]
  rw [Nat.zero_add]
  simp only [World.cell?, h]
  match j, hj with
  | 0, _ => rfl
  | 1, _ => rfl
  | 2, _ => rfl
  | 3, _ => rfl
  | 4, _ => rfl
  | 5, _ => rfl
def OPH : List Int := hashF OPNB
theorem dg_OPH : Dg OPH := dg_hash _
theorem opnS_eq (d : List Int) : opnS d = hashF (OPH ++ d) := rfl
theorem begS_length (seed : List Int) (i : Nat) : (begS seed i).length = seed.length + 34 := by
  unfold begS
  rw [List.length_append, List.length_append, hashF_length, twoB_length]
  omega
/-- a one-time key is returned -/
def OtkIs (w : World) (seed : List Int) (i : Nat) (x : Ending) (w' : World) : Prop := ∃ A m, x = .returned (otkV A m OPH) ∧ Otk w' A m (begS seed i) OPH ∧ (∀ a, A = some a → w.heap.size ≤ a.block) ∧ Below w.heap.size w w'

set_option maxRecDepth 100000 in
set_option maxHeartbeats 4000000 in
theorem newOtk_any (w : World) (A : Option Addr) (n c : Nat) (seed : List Int) (hn : n = seed.length) (h1 : 1 ≤ n) (h64 : n ≤ 1000) (hc : n ≤ c) (hA : Bt w A seed) (i : Nat) (hi : i < 65536) (hT : DTab w) :
    Calls Tryd.prog 72 #[.slice A n c, .int .i64 (i : Int)] w (OtkIs w seed i) := by
  have HT := hide hT; have HA := hide hA
  have HN : Hid (n = seed.length ∧ 1 ≤ n ∧ n ≤ 1000 ∧ n ≤ c ∧ i < 65536) := ⟨hn, h1, h64, hc, hi⟩
  clear hT hA hn h1 h64 hc hi
  go_enter Tryd.func72, Tryd.ntmps72
  go_upto_region 1 with fail
  generalize hX1 : w.alloc _ = W1
  have hB1 : Below w.heap.size w W1 := hX1 ▸ (Below.refl _ _).alloc (Nat.le_refl _) _
  have ho1 : VsAt W1 w.heap.size 83 (.slice none 0 0 :: List.replicate 32 (Value.int .u8 0)) := boxedV w W1 _ _ (by rw [← hX1]; rfl)
  have HB1 := hide hB1
  have HO1 := hide ho1
  clear hX1 hB1 ho1
  have kc := fun (w : World) (C : Array Value) (n c : Nat) => Lib.run_convert_bytes_const (P := Tryd.prog) w 22 5 C n c Tryd.underlying22 Tryd.underlying5
  have B6 : ∀ x ∈ SECB, Byt x := by unfold SECB Byt; simp
  have HB6 := hide B6
  have HB4 : Hid (Byt 111 ∧ Byt 112 ∧ Byt 101 ∧ Byt 110) := by refine ⟨?_, ?_, ?_, ?_⟩ <;> exact ⟨by decide, by decide⟩
  clear B6
  refine wp_region_list ?_
  go_wp2_with fail
  generalize hX2 : W1.alloc _ = W2
  have hB2 : Below W1.heap.size W1 W2 := hX2 ▸ (Below.refl _ _).alloc (Nat.le_refl _) _
  have hb2 : Bt W2 (some ⟨W1.heap.size, 0, none⟩) SECB := lit6 W1 W2 _ _ _ _ _ _ 5 _ (by rw [← hX2]; rfl) (unhide HB6)
  refine (sum_any W2 _ 6 SECB hb2 (by decide) ((unhide HT).keep (thenB (unhide HB1) hB2))).mono ?_; rintro x W3 ⟨rfl, hB3⟩
  have HB3 := hide (thenB (thenB (unhide HB1) hB2) hB3)
  have HO3 := hide (((unhide HO1).keep hB2).keep hB3)
  obtain ⟨S, hS⟩ : ∃ S, S = hashF SECB := ⟨_, rfl⟩
  have hgS : Dg S := hS ▸ dg_hash _
  obtain ⟨cs, hcs⟩ : ∃ cs, cs = (S.map (Value.int .u8)).toArray := ⟨_, rfl⟩
  have hss : cs.size = 32 := by rw [hcs]; simpa using hgS.len
  rw [← hS, show dv S = .agg cs by rw [hcs]]
  have HS := hide hS; have HGS := hide hgS; have HCS := hide hcs
  clear hX2 hB2 hb2 hB3 HB1 HO1 hS hgS hcs
  dsimp only
  rename_i KK hK
  refine hK _ _ ?_
  clear hK KK
  refine wpList_plain rfl fun Kt hKt => ?_
  go_simp
  refine hKt _ _ ?_
  clear hKt Kt
  generalize hX5 : W3.alloc _ = W5
  have hB5 : Below W3.heap.size W3 W5 := hX5 ▸ (Below.refl _ _).alloc (Nat.le_refl _) _
  have HO5 := hide (newBy W3 W5 (by rw [← hX5]; rfl))
  have HZ : Hid (w.heap.size < W3.heap.size) := lt_of_block (unhide HO3)
  have HB5 := hide (thenB (unhide HB3) hB5)
  have HC1 := hide ((unhide HO3).keep hB5)
  clear hX5 hB5 HO3 HB3
  refine wpList_bstore rfl 24 (.tmp 5) (.tmp 9) rfl W3.heap.size rfl S (show Value.agg cs = _ by rw [unhide HCS]) 32 info32 (unhide HGS).len _ zeros (unhide HO5) rfl ?_
  intro W6 HW6 HG6
  have HB6' := hide ((unhide HB5).grown (unhide HG6) (unhide HB5).size (fun i e => by injection e with e; have := unhide HZ; omega))
  have HD1 := hide ((unhide HC1).grown (unhide HG6) (fun e => by injection e with e; have := unhide HZ; omega))
  obtain ⟨N5, hN5⟩ : ∃ N, N = W3.heap.size := ⟨_, rfl⟩
  rw [← hN5] at HW6 ⊢
  clear hN5 HG6 HC1 HB5 HO5 HZ
  try simp only [List.getElem_toArray, List.getElem_cons_zero, List.getElem_cons_succ, Act.put, List.setIfInBounds_toArray, List.set_cons_zero, List.set_cons_succ]
  go_upto_region 2 with fail
  obtain ⟨W, hW⟩ : ∃ W, W = W6.drewN 1 := ⟨_, rfl⟩
  have HW : Hid (W = W6.drewN 1) := hW
  have HE1 := hide ((unhide HD1).keep (below_named HW))
  have HE5 := hide ((unhide HW6).keep (below_named HW))
  have HBW := hide (thenB (unhide HB6') (below_named HW))
  clear hW HD1 HW6 HB6'
  have hSW := unhide HBW
  refine held (S := Below w.heap.size w) W HW (by kernel_rfl) ?_
  refine wpAnyH_take (i := 0) (v := ?_) rfl (by kernel_rfl) (by kernel_rfl) (by kernel_rfl) (fun _ _ _ h => h) (Or.inl ⟨by kernel_rfl, ?_⟩) (by assumption) ?_
  rotate_left
  · intro Wt hSt
    go_simp
    try with_reducible rfl
  try simp only [List.getElem_toArray, List.getElem_cons_zero, List.getElem_cons_succ, Act.put, List.setIfInBounds_toArray, List.set_cons_zero, List.set_cons_succ]
  refine wpAnyH_take (i := 1) (v := ?_) rfl (by kernel_rfl) (by kernel_rfl) (by kernel_rfl) (fun _ _ _ h => h) (Or.inl ⟨by kernel_rfl, ?_⟩) (by assumption) ?_
  rotate_left
  · intro Wt hSt
    go_simp
    try with_reducible rfl
  try simp only [List.getElem_toArray, List.getElem_cons_zero, List.getElem_cons_succ, Act.put, List.setIfInBounds_toArray, List.set_cons_zero, List.set_cons_succ]
  refine wpAnyH_take (i := 2) (v := ?_) rfl (by kernel_rfl) (by kernel_rfl) (by kernel_rfl) (fun _ _ _ h => h) (Or.inl ⟨by kernel_rfl, ?_⟩) (by assumption) ?_
  rotate_left
  · intro Wt hSt
    go_simp
    try with_reducible rfl
  try simp only [List.getElem_toArray, List.getElem_cons_zero, List.getElem_cons_succ, Act.put, List.setIfInBounds_toArray, List.set_cons_zero, List.set_cons_succ]
  refine wpAnyH_chainOf [3, 4, 5, 6] _ _ _ (by kernel_rfl) (by kernel_rfl) ?_
  simp only [List.filterMap_cons, List.filterMap_nil, List.getElem?_toArray, List.getElem?_cons_zero, List.getElem?_cons_succ]
  refine wpChain_step rfl fun K hK => ?_
  go_simp
  refine (two_any i (unhide HN).2.2.2.2 W).mono ?_; rintro x W7 ⟨⟨A2, c2, rfl, hc2, hb2, hA2⟩, hB7⟩
  have hS7 := thenB hSW hB7
  have HB7 := hide hS7
  have HO7 := hide ((unhide HE1).keep hB7)
  have hpp : ∀ p ∈ ([⟨some ⟨N5, 0, none⟩, S, 32⟩, ⟨A, seed, c⟩, ⟨A2, twoB i, c2⟩] : List Part), p.ok W7 ∧ (p.A = none → p.c = 0) := fun p hp => by
    have hN := unhide HN
    simp only [List.mem_cons, List.not_mem_nil, or_false] at hp
    rcases hp with rfl | rfl | rfl
    · exact ⟨⟨((unhide HE5).keep hB7).bt (unhide HGS), Nat.le_of_eq (unhide HGS).len⟩, fun h => by cases h⟩
    · refine ⟨⟨(unhide HA).keep (unhide HB7), by show seed.length ≤ c; omega⟩, fun h => ?_⟩
      obtain ⟨b, o, e, _⟩ := (unhide HA).at_ (fun e => by rw [e] at hN; simp at hN; omega)
      rw [show A = _ from e] at h
      cases h
    · exact ⟨⟨hb2, hc2⟩, fun h => absurd h hA2⟩
  have hj : joined [⟨some ⟨N5, 0, none⟩, S, 32⟩, ⟨A, seed, c⟩, ⟨A2, twoB i, c2⟩] = begS seed i := by rw [begS, ← unhide HS]; simp [joined]
  have hh := concat_new W7 [⟨some ⟨N5, 0, none⟩, S, 32⟩, ⟨A, seed, c⟩, ⟨A2, twoB i, c2⟩] 22 hpp (by simp) (by rw [hj, begS_length]; have := unhide HN; omega)
  rw [hj] at hh
  simp only [List.map_cons, List.map_nil, Part.val, (unhide HGS).len, ← (unhide HN).1, twoB_length] at hh
  have HH := hide hh
  clear hpp hj hh hc2 hb2 hA2 HE1 HE5
  dsimp only
  refine hK _ _ hS7 ?_
  clear hK K
  refine wpChain_step rfl fun K hK => ?_
  go_simp
  refine hK _ _ (thenB hS7 ((Below.refl _ _).alloc (Nat.le_refl _) _)) ?_
  clear hK K
  refine wpChain_step rfl fun K hK => ?_
  go_simp
  refine (unhide HH).mono ?_; rintro x W8 ⟨A8, c8, rfl, hc8, hb8, _, hlow, hB8⟩
  have hS8 := thenB hS7 hB8
  have HB8 := hide hS8
  have HO8 := hide ((unhide HO7).keep hB8)
  have HLOW : Hid (∀ a, A8 = some a → w.heap.size < a.block) := fun a ha => Nat.lt_of_lt_of_le (lt_of_block (unhide HO7)) (hlow a ha)
  dsimp only
  refine hK _ _ hS8 ?_
  clear hK K hB8 hB7 hlow HO7 HB7 HH
  refine wpChain_step rfl fun K hK => ?_
  go_simp
  refine hK _ _ hS8 (wpChain_nil ?_)
  clear hK K hS8 hS7 hSW HBW
  obtain ⟨m, hm⟩ : ∃ m, m = (begS seed i).length := ⟨_, rfl⟩
  rw [← hm] at hc8 ⊢
  obtain ⟨b8, o8, rfl, _⟩ := hb8.at_ (fun e => by have := begS_length seed i; rw [e] at this; simp at this)
  have HM : Hid (m = (begS seed i).length ∧ m ≤ c8) := ⟨hm, hc8⟩
  have HBT := hide hb8
  have hblt : Hid (w.heap.size < b8) := (unhide HLOW) _ rfl
  clear hm hc8 hb8 HLOW
  go_wp2_with fail
  refine (clip_any b8 o8 m c8 (unhide HM).2 W8).mono ?_; rintro x W8' ⟨rfl, rfl⟩
  go_wp2_with fail
  generalize hX9 : World.alloc _ _ = W9
  have hB9 : Below W8'.heap.size W8' W9 := hX9 ▸ (Below.refl _ _).alloc (Nat.le_refl _) _
  have hb9 : Bt W9 (some ⟨W8'.heap.size, 0, none⟩) OPNB := lit4 W8' W9 _ _ _ _ 5 _ (by rw [← hX9]; rfl) (unhide HB4).1 (unhide HB4).2.1 (unhide HB4).2.2.1 (unhide HB4).2.2.2
  refine (sum_any W9 _ 4 OPNB hb9 (by decide) ((unhide HT).keep (thenB (unhide HB8) hB9))).mono ?_; rintro x W10 ⟨rfl, hB10⟩
  have HB10 := hide (thenB (thenB (unhide HB8) hB9) hB10)
  have HO10 := hide (((unhide HO8).keep hB9).keep hB10)
  have HBT10 := hide (((unhide HBT).keep hB9).keep hB10)
  rw [show hashF OPNB = OPH from rfl]
  obtain ⟨co, hco⟩ : ∃ cs, cs = (OPH.map (Value.int .u8)).toArray := ⟨_, rfl⟩
  have hso : co.size = 32 := by rw [hco]; simpa using dg_OPH.len
  rw [show dv OPH = .agg co by rw [hco]]
  have HCO := hide hco
  clear hX9 hB9 hb9 hB10 HB8 HO8 HBT hco
  dsimp only
  rename_i KK hK
  refine hK _ _ ?_
  clear hK KK
  obtain ⟨ck, hck⟩ : ∃ cs, cs = (otkL (some ⟨b8, o8, none⟩) m OPH).toArray := ⟨_, rfl⟩
  refine wpList_build2 rfl 83 0 1 (.tmp 17) (.tmp 20) rfl (.slice (some ⟨b8, o8, none⟩) m m) (dv OPH) (.agg ck) rfl (show Value.agg co = _ by rw [unhide HCO]) (by rw [hck]; exact build_otk (some ⟨b8, o8, none⟩) m OPH dg_OPH.len W10) ?_
  have HCK := hide hck
  clear hck
  refine wpList_vput rfl 83 (.tmp 4) (.tmp 21) rfl w.heap.size 0 rfl (otkL (some ⟨b8, o8, none⟩) m OPH) (show Value.agg ck = _ by rw [unhide HCK]) (by rw [otkL_length _ _ _ dg_OPH.len]; exact info33) (otkL_one _ _ _) _ _ (unhide HO10) (by rw [otkL_length _ _ _ dg_OPH.len]; simp) ?_
  intro W11 HW11 HG11
  have hw11 := unhide HW11
  rw [spliceV_all _ _ (by rw [otkL_length _ _ _ dg_OPH.len]; simp)] at hw11
  have HW := hide hw11
  have HB11 := hide ((unhide HB10).grown (unhide HG11) (unhide HB10).size (fun i e => by injection e with e; omega))
  have HBT11 := hide (show Bt W11 (some ⟨b8, o8, none⟩) (begS seed i) from by
    refine ⟨(unhide HBT10).byt, fun hne => ?_⟩
    obtain ⟨b, o, e, hc⟩ := (unhide HBT10).at_ hne
    refine ⟨b, o, e, fun j hj => ?_⟩
    have h1 := hc j hj
    injection e with e
    injection e with e1 e2
    subst e1
    rw [cell_block ((unhide HG11).block b8 (lt_of_cell h1) (fun e => by injection e with e; have := unhide hblt; omega))]
    exact h1)
  go_wp2_with fail
  try simp only [Exit.inBlock, Exit.then]
  exact vret rfl rfl w.heap.size rfl _ _ (unhide HW) _ Tryd.underlying83 rfl (by rw [otkL_length _ _ _ dg_OPH.len]; exact info33) ⟨_, m, rfl, ⟨(unhide HM).1, by have := (unhide HM).1; rw [begS_length] at this; omega, by have := (unhide HM).1; rw [begS_length] at this; have := unhide HN; omega, unhide HBT11, dg_OPH⟩, (fun a ha => by injection ha with ha; subst ha; exact Nat.le_of_lt (unhide hblt)), unhide HB11⟩
end Go.Proofs.YtceppmajbkmbdaaDoor
namespace Go.Proofs.YtceppmajbkmbdaaDoor
set_option linter.unusedSimpArgs false
set_option linter.unusedVariables false
open Go.RowKit

def preS (f : Nat → Nat → List Int) (j b : Nat) : List Int := halfS f j ++ (List.range b).flatMap (f j)
theorem preS_zero (f : Nat → Nat → List Int) (j : Nat) : preS f j 0 = halfS f j := by simp [preS]
theorem preS_succ (f : Nat → Nat → List Int) (j b : Nat) : preS f j (b + 1) = preS f j b ++ f j b := by
  unfold preS
  rw [List.range_succ, List.flatMap_append]
  simp
theorem preS_two (f : Nat → Nat → List Int) (j : Nat) : preS f j 2 = halfS f (j + 1) := by
  rw [preS_succ, preS_succ, preS_zero, halfS_succ, List.append_assoc]
theorem preS_length (f : Nat → Nat → List Int) (j b : Nat) (hj : j < 64) (hb : b ≤ 2) (h : ∀ j b, j < 64 → b < 2 → Dg (f j b)) : (preS f j b).length = 64 * j + 32 * b := by
  have hh := halfS_length f j fun j' b h1 h2 => (h j' b (by omega) h2).len
  match b, hb with
  | 0, _ => rw [preS_zero, hh]; omega
  | 1, _ => rw [preS_succ, preS_zero, List.length_append, hh, (h j 0 hj (by omega)).len]
  | 2, _ => rw [preS_two, halfS_succ, List.length_append, List.length_append, hh, (h j 0 hj (by omega)).len, (h j 1 hj (by omega)).len]

set_option maxRecDepth 100000 in
set_option maxHeartbeats 4000000 in
theorem publicKey_any (fid : FuncId) (recv : Value) (f : Nat → Nat → List Int) (w : World) (hg : ∀ j b, j < 64 → b < 2 → Dg (f j b)) (hrun : ∀ (args : Array Value) (w : World), (callFunc fid args).run Tryd.prog w = .ok (.enter fid args) w)
    (hc : ∀ (W : World) (j b : Nat), j < 64 → b < 2 → Below w.heap.size w W → Calls Tryd.prog fid #[recv, dv [(j : Int), (b : Int)]] W fun x w' => x = .returned (dv (f j b)) ∧ Below W.heap.size W w') (hT : DTab w) :
    Calls Tryd.prog 79 #[.func (.func fid) #[recv] #[]] w fun x w' => x = .returned (dv (oneS f)) ∧ Below w.heap.size w w' := by
  obtain ⟨i0, hi, hz0, hz1, hz2⟩ := info_parts infoByte
  have HT := hide hT; have HG := hide hg; have HC := hide hc; have HRUN := hide hrun
  clear hT hg hc hrun
  go_enter Tryd.func79, Tryd.ntmps79
  go_upto_region 1 with fail
  generalize hX1 : w.alloc _ = W1
  have hB1 : Below w.heap.size w W1 := hX1 ▸ (Below.refl _ _).alloc (Nat.le_refl _) _
  have ho1 : ByAt W1 w.heap.size 24 zeros := newBy w W1 (by rw [← hX1]; rfl)
  have HB1 := hide hB1; have HO1 := hide ho1
  clear hX1 hB1 ho1
  go_wp2_with (at_make; refine wpList_make_own _ rfl _ _ 22 rfl W1.heap.size 5 i0 (.int .u8 0) 1 Tryd.underlying22 hi hz0 hz1 .i64 .i64 4096 4096 rfl rfl rfl (by omega) (by unfold maxLen; omega) (Nat.le_refl _) ?_)
  intro W2 hown hgrow
  have HO2 := hide (show OwnB W2 W1.heap.size _ (halfS f 0) from hown)
  have HB2 := hide (show Below W1.heap.size W1 W2 from (Below.refl _ _).grown hgrow (Nat.le_refl _) (fun i e => by cases e))
  clear hown hgrow hi hz0 hz1 hz2
  go_wp2_with fail
  go_loopg [3, 8] 64 (fun g y3 y8 wx => ∃ (j : Nat), g + j = 64 ∧ y8 = .int .i64 (j : Int) ∧ OwnB wx W1.heap.size y3 (halfS f j) ∧ Below W1.heap.size W1 wx)
  case atStart => exact ⟨0, rfl, rfl, unhide HO2, unhide HB2⟩
  case round =>
    obtain ⟨j, hj, rfl, hov, hbv⟩ := hrel
    cases gk with
    | zero =>
      obtain rfl : j = 64 := by omega
      obtain ⟨A, c, rfl, hc, hbt, _, _⟩ := own_formB hov (halfS_byt f 64 fun j b h1 h2 => ((unhide HG) j b h1 h2).byt)
      have hl := halfS_length f 64 fun j b h1 h2 => ((unhide HG) j b h1 h2).len
      have htg := tagged_any wr ⟨#[111, 110, 101]⟩ A c (halfS f 64) hbt hc ((unhide HT).keep (thenB (unhide HB1) hbv))
      rw [show sb ⟨#[111, 110, 101]⟩ = ONEB by decide] at htg
      have HTG := hide htg; have HBV := hide hbv
      clear hov hbv hc hbt htg hj
      rw [hl] at HTG ⊢
      clear hl
      go_wp2_with fail
      refine (unhide HTG).mono ?_; rintro x W3 ⟨rfl, hB3⟩
      have HO3 := hide (((unhide HO1).keep (unhide HBV)).keep hB3)
      have HB3 := hide (thenB (thenB (unhide HB1) (unhide HBV)) hB3)
      clear hB3
      dsimp only
      rename_i KK hK
      refine hK _ _ ?_
      clear hK KK
      refine wpList_bstore rfl 24 (.tmp 2) (.tmp 27) rfl w.heap.size rfl (tagF ONEB (halfS f 64)) rfl 32 info32 (dg_hash _).len _ zeros (unhide HO3) rfl ?_
      intro W9 HW9 HG9
      go_wp2_with fail
      try simp only [Exit.inBlock, Exit.then]
      exact bret rfl rfl w.heap.size rfl _ _ (unhide HW9) (dg_hash _).len ⟨rfl, (unhide HB3).grown (unhide HG9) (unhide HB3).size (fun i e => by injection e with e; omega)⟩
    | succ g =>
      have hj64 : j < 64 := by omega
      have j1 : (j : Int) < 64 := by omega
      have wj : IntKind.u8.wrap (j : Int) = (j : Int) := by rw [IntKind.wrap_u8]; omega
      have HJ : Hid (j < 64 ∧ g + 1 + j = 64) := ⟨hj64, hj⟩
      have HOV := hide (show OwnB wr W1.heap.size u3 (preS f j 0) by rw [preS_zero]; exact hov)
      have HBV := hide hbv
      clear hov hbv hj hj64
      go_wp2_with fail
      go_loopg [3, 11] 2 (fun h y3 y11 wx => ∃ (b : Nat), h + b = 2 ∧ y11 = .int .i64 (b : Int) ∧ OwnB wx W1.heap.size y3 (preS f j b) ∧ Below W1.heap.size W1 wx)
      case atStart => exact ⟨0, rfl, rfl, unhide HOV, unhide HBV⟩
      case round =>
        obtain ⟨b, hb, rfl, hou, hbu⟩ := hrel
        cases gk with
        | zero =>
          obtain rfl : b = 2 := by omega
          rw [preS_two] at hou
          have HOU := hide hou; have HBU := hide hbu
          clear hou hbu hb
          go_wp2_with fail
          go_roundg g
          case measure => omega
          case rel => exact ⟨j + 1, by have := unhide HJ; omega, by push_cast; rfl, unhide HOU, unhide HBU⟩
        | succ h =>
          obtain ⟨UU, hUU⟩ : ∃ U, U = u3 := ⟨_, rfl⟩
          rw [← hUU] at hou ⊢
          clear hUU
          have hb2 : b < 2 := by omega
          have b1 : (b : Int) < 2 := by omega
          have wb : IntKind.u8.wrap (b : Int) = (b : Int) := by rw [IntKind.wrap_u8]; omega
          have hca := (unhide HC) wr j b (unhide HJ).1 hb2 (thenB (unhide HB1) hbu)
          obtain ⟨D, hD⟩ : ∃ D, D = f j b := ⟨_, rfl⟩
          have hgD : Dg D := hD ▸ (unhide HG) j b (unhide HJ).1 hb2
          obtain ⟨cd, hcd⟩ : ∃ cs, cs = (D.map (Value.int .u8)).toArray := ⟨_, rfl⟩
          have hsd : cd.size = 32 := by rw [hcd]; simpa using hgD.len
          rw [← hD, show dv D = .agg cd by rw [hcd]] at hca
          have hlen := preS_length f j b (unhide HJ).1 (by omega) (unhide HG)
          have HL : Hid ((preS f j b).length ≤ 5000) := by rw [hlen]; have := (unhide HJ).1; exact (by omega : 64 * j + 32 * b ≤ 5000)
          have HCA := hide hca; have HD := hide hD; have HGD := hide hgD; have HCD := hide hcd
          have HOU := hide hou; have HBU := hide hbu
          have HBB : Hid (h + 1 + b = 2 ∧ b < 2) := ⟨hb, hb2⟩
          clear hca hD hgD hcd hou hbu hlen hb hb2
          go_wp2_with fail
          rw [(unhide HRUN) _ wr, Oper.upon_enter]
          refine (unhide HCA).mono ?_; rintro x W3 ⟨rfl, hB3⟩
          have HO3 := hide ((unhide HOU).later hB3)
          have HB3 := hide (thenB (unhide HBU) hB3)
          clear hB3 HCA HOU HBU
          dsimp only
          rename_i KK hK
          refine hK _ _ ?_
          clear hK KK
          refine wpList_plain rfl fun Kt hKt => ?_
          go_simp
          refine hKt _ _ ?_
          clear hKt Kt
          generalize hX4 : W3.alloc _ = W4
          have hB4 : Below W3.heap.size W3 W4 := hX4 ▸ (Below.refl _ _).alloc (Nat.le_refl _) _
          have HN4 := hide (newBy W3 W4 (by rw [← hX4]; rfl))
          have HO4 := hide ((unhide HO3).later hB4)
          have HLT : Hid (∀ k, Value.ownBlock UU = some k → k < W3.heap.size) := fun k hk => ((unhide HO3).lt k hk).2
          have HB4 := hide (thenB (unhide HB3) hB4)
          have HZ : Hid (W1.heap.size ≤ W3.heap.size) := (unhide HB3).size
          clear hX4 hB4 HO3 HB3
          refine wpList_bstore rfl 24 (.tmp 6) (.tmp 20) rfl W3.heap.size rfl D (show Value.agg cd = _ by rw [unhide HCD]) 32 info32 (unhide HGD).len _ zeros (unhide HN4) rfl ?_
          intro W5 HW5 HG5
          have HB5 := hide ((unhide HB4).grown (unhide HG5) (unhide HB4).size (fun i e => by injection e with e; have := unhide HZ; omega))
          have ho5 : OwnB W5 W1.heap.size UU (preS f j b) := (unhide HO4).kept (unhide HG5) (.inr fun e => by have := (unhide HLT) _ e; omega)
          obtain ⟨u2, W6, hr6, ho6, hg6⟩ := run_append_B ho5 22 (some ⟨W3.heap.size, 0, none⟩) 32 ((unhide HW5).bt (unhide HGD)) (fun e => by cases e) (by rw [(unhide HGD).len]; have := unhide HL; omega) (unhide HB5).size
          rw [(unhide HGD).len] at hr6
          rw [unhide HD, ← preS_succ] at ho6
          have HO6 := hide ho6; have HR6 := hide hr6
          have HB6 := hide (grown_below (unhide HB5) hg6 (fun k hk => (ho5.lt k hk).1))
          clear ho5 hr6 ho6 hg6 HG5 HB4 HO4 HN4 HLT HZ
          try simp only [List.getElem_toArray, List.getElem_cons_zero, List.getElem_cons_succ, Act.put, List.setIfInBounds_toArray, List.set_cons_zero, List.set_cons_succ]
          go_wp2_with (at_builtin; refine wpList_app rfl (.tmp 21) (.tmp 22) 22 22 rfl _ _ u2 W6 rfl rfl (unhide HR6) ?_)
          go_roundg h
          case measure => omega
          case rel => exact ⟨b + 1, by have := unhide HBB; omega, by push_cast; rfl, unhide HO6, unhide HB6⟩
end Go.Proofs.YtceppmajbkmbdaaDoor
namespace Go.Proofs.YtceppmajbkmbdaaDoor
set_option linter.unusedSimpArgs false
set_option linter.unusedVariables false
open Go.RowKit

theorem own_vs {w : World} {base g n c size : Nat} {e : TypeId} {xs : List Value} (h : w.ownsRow base e size (.slice (some ⟨g, 0, none⟩) n n) n xs) : VsAt w g e xs ∧ xs.length = n * size := by
  refine ⟨?_, h.1⟩
  rcases h.2 with ⟨h0, _⟩ | ⟨g', cap, cur, h0, hb, hg, h1, h2, h3, h4⟩
  · cases h0
  · simp only [Value.slice.injEq, Option.some.injEq, Addr.mk.injEq, and_true, true_and] at h0
    obtain ⟨rfl, rfl⟩ := h0
    unfold VsAt
    rw [hg, ← h4, List.take_of_length_le (by rw [Array.length_toList, h3]; exact Nat.le_refl _)]
theorem run_hash (args : Array Value) (w : World) : (callFunc 75 args).run Tryd.prog w = .ok (.enter 75 args) w := by
  simp [callFunc, Tryd.func75, Tryd.f75]
theorem vs_ds {w : World} {g : Nat} {p : List (List Int)} (h : VsAt w g 24 (dcells p)) (hp : ∀ d ∈ p, Dg d) : Ds w (some ⟨g, 0, none⟩) p :=
  ⟨hp, fun _ => ⟨g, 0, rfl, fun i d hd j v hv => by rw [Nat.zero_add]; exact h.cell (dcells_get hp hd hv)⟩⟩
theorem pubsS_succ (seed : List Int) (k : Nat) : pubsS seed (k + 1) = pubsS seed k ++ [pubS seed k] := by simp [pubsS, List.range_succ]
theorem cells_next (cs : List Value) (seed : List Int) (many k : Nat) (hk : k < many) (hl : cs.length = many * 32) (ht : cs.take (k * 32) = dcells (pubsS seed k)) :
    (spliceV cs ((pubS seed k).map (Value.int .u8)) (k * 32)).length = many * 32 ∧ (spliceV cs ((pubS seed k).map (Value.int .u8)) (k * 32)).take ((k + 1) * 32) = dcells (pubsS seed (k + 1)) := by
  have hp : ((pubS seed k).map (Value.int .u8)).length = 32 := by simpa using (dg_pubS seed k).len
  have hkm : (k + 1) * 32 ≤ many * 32 := Nat.mul_le_mul_right _ hk
  unfold spliceV
  constructor
  · simp only [List.length_append, List.length_take, List.length_drop, hp, hl]
    omega
  · rw [ht, pubsS_succ, dcells_append, dcells_one, ← List.append_assoc]
    refine List.take_left' ?_
    rw [List.length_append, hp, dcells_length (dg_pubsS seed k), pubsS_length]
    omega
/-- the one-time public keys are returned -/
def PubsIs (w : World) (seed : List Int) (many : Nat) (x : Ending) (w' : World) : Prop := ∃ A c, x = .returned (.slice (some A) many c) ∧ many ≤ c ∧ Ds w' (some A) (pubsS seed many) ∧ w.heap.size ≤ A.block ∧ Below w.heap.size w w'

set_option maxRecDepth 100000 in
set_option maxHeartbeats 4000000 in
theorem publicKeys_any (w : World) (A : Option Addr) (n c : Nat) (seed : List Int) (hn : n = seed.length) (h1 : 1 ≤ n) (h64 : n ≤ 1000) (hc : n ≤ c) (hA : Bt w A seed) (many : Nat) (hm : many ≤ 4096) (u : Int) (hT : DTab w) :
    Calls Tryd.prog 70 #[keyV A n c (many : Int) u] w (PubsIs w seed many) := by
  obtain ⟨i0, hi, hz0, hz1, hz2⟩ := info_parts infoDig
  have hmf : ∀ (fn : Fn) (first cap : Array Value) (w : World), (Instr.makeFunc fn first cap).run Tryd.prog w = .ok (.func fn first cap) w := fun _ _ _ _ => rfl
  have HT := hide hT; have HA := hide hA
  have HN : Hid (n = seed.length ∧ 1 ≤ n ∧ n ≤ 1000 ∧ n ≤ c ∧ many ≤ 4096) := ⟨hn, h1, h64, hc, hm⟩
  unfold keyV
  clear hT hA hn h1 h64 hc hm
  go_enter Tryd.func70, Tryd.ntmps70
  go_upto_region 1 with fail
  generalize hX1 : w.alloc _ = W1
  have hB1 : Below w.heap.size w W1 := hX1 ▸ (Below.refl _ _).alloc (Nat.le_refl _) _
  have ho1 : VsAt W1 w.heap.size 40 [.slice A n c, .int .i64 (many : Int), .int .i64 u] := boxedV w W1 _ _ (by rw [← hX1]; rfl)
  have hc1 : W1.cell? ⟨w.heap.size, 1, none⟩ = some (.int .i64 (many : Int)) := ho1.cell rfl
  have HB1 := hide hB1; have HO1 := hide ho1
  have HLT := hide (lt_of_block ho1)
  clear hX1 hB1 ho1
  go_wp2_with (at_make; refine wpList_make_full _ rfl _ _ 26 rfl W1.heap.size 24 i0 (dv zeros) 32 Tryd.underlying26 hi hz0 hz1 .i64 .i64 _ _ many rfl rfl rfl rfl (by rw [hz2]; have := unhide HN; omega) (by unfold maxLen; have := unhide HN; omega) (Nat.le_refl _) ?_)
  intro W2 hown hgrow
  obtain ⟨hvs, hvl⟩ := own_vs (c := 0) hown
  have hB2 : Below W1.heap.size W1 W2 := (Below.refl _ _).grown hgrow (Nat.le_refl _) (fun i e => by cases e)
  have HVS := hide hvs; have HVL := hide hvl; have HB2 := hide hB2
  obtain ⟨G, hG⟩ : ∃ G, G = W1.heap.size := ⟨_, rfl⟩
  rw [← hG] at HVS HLT ⊢
  have HG := hide hG
  have hc2 : W2.cell? ⟨w.heap.size, 1, none⟩ = some (.int .i64 (many : Int)) := ((unhide HO1).keep hB2).cell rfl
  clear hown hgrow hvs hvl hB2 hc1 hi hz0 hz1 hz2 hG
  go_wp2_with fail
  go_loopg [10] many (fun g y10 wx => ∃ (k : Nat) (cs : List Value), g + k = many ∧ y10 = .int .i64 (k : Int) ∧ VsAt wx G 24 cs ∧ cs.length = many * 32 ∧ cs.take (k * 32) = dcells (pubsS seed k) ∧ Below W1.heap.size W1 wx)
  case atStart => exact ⟨0, _, rfl, rfl, unhide HVS, unhide HVL, by simp [pubsS, dcells], unhide HB2⟩
  case round =>
    obtain ⟨k, cs, hk, rfl, hvs, hvl, hvt, hb⟩ := hrel
    cases gk with
    | zero =>
      obtain rfl : k = many := by omega
      rw [List.take_of_length_le (by omega)] at hvt
      subst hvt
      have HV := hide hvs; have HB := hide (thenB (unhide HB1) hb)
      clear hvs hvl hb hk
      go_wp2_with fail
      go_ret
      exact ⟨_, _, rfl, Nat.le_refl _, vs_ds (unhide HV) (dg_pubsS seed k), Nat.le_of_lt (unhide HLT), unhide HB⟩
    | succ g =>
      have hkm : k < many := by omega
      have k1 : (k : Int) < (many : Int) := by omega
      have k0 : (0 : Int) ≤ (k : Int) := Int.natCast_nonneg _
      have k4 : (k : Int) ≤ 4096 := by have := unhide HN; omega
      have hbw := thenB (unhide HB1) hb
      have hc0 : wr.cell? ⟨w.heap.size, 0, none⟩ = some (.slice A n c) := ((unhide HO1).keep hb).cell rfl
      have hnk := newOtk_any wr A n c seed (unhide HN).1 (unhide HN).2.1 (unhide HN).2.2.1 (unhide HN).2.2.2.1 ((unhide HA).keep hbw) k (by have := (unhide HN).2.2.2.2; omega) ((unhide HT).keep hbw)
      have HNK := hide hnk
      have HV := hide hvs; have HVL := hide hvl; have HVT := hide hvt; have HB := hide hb; have HBW := hide hbw
      have HKM : Hid (g + 1 + k = many ∧ k < many) := ⟨hk, hkm⟩
      clear hnk hvs hvl hvt hb hbw hk hkm
      go_wp2_with fail
      refine (unhide HNK).mono ?_; rintro x W3 ⟨A', m', rfl, hotk, _, hB3⟩
      have hpk := publicKey_any 75 (otkV A' m' OPH) (fun j b => opnS (secS (begS seed k) j b)) W3 (fun j b _ _ => dg_opnS _) run_hash
        (fun W j b hj hb hBW => hash_any' W A' m' (begS seed k) OPH (hotk.keep hBW) (j : Int) (b : Int) (byt_nat j (by omega)) (byt_nat b (by omega)) ((unhide HT).keep (thenB (thenB (unhide HBW) hB3) hBW)))
        ((unhide HT).keep (thenB (unhide HBW) hB3))
      rw [show oneS (fun j b => opnS (secS (begS seed k) j b)) = pubS seed k from rfl] at hpk
      obtain ⟨D, hD⟩ : ∃ D, D = pubS seed k := ⟨_, rfl⟩
      have hgD : Dg D := hD ▸ dg_pubS seed k
      obtain ⟨cd, hcd⟩ : ∃ cs, cs = (D.map (Value.int .u8)).toArray := ⟨_, rfl⟩
      have hsd : cd.size = 32 := by rw [hcd]; simpa using hgD.len
      rw [← hD, show dv D = .agg cd by rw [hcd]] at hpk
      have HPK := hide hpk; have HD := hide hD; have HGD := hide hgD; have HCD := hide hcd
      have HV3 := hide ((unhide HV).keep hB3)
      have HB3 := hide (thenB (unhide HB) hB3)
      clear hpk hD hgD hcd hotk hB3 HNK HV HB HBW
      go_wp2_with fail
      refine (unhide HPK).mono ?_; rintro x W4 ⟨rfl, hB4⟩
      have HV4 := hide ((unhide HV3).keep hB4)
      have HB4 := hide (thenB (unhide HB3) hB4)
      clear hB4 HPK HV3 HB3
      dsimp only
      rename_i KK hK
      refine hK _ _ ?_
      clear hK KK
      refine wpList_plain rfl fun Kt hKt => ?_
      go_simp
      refine hKt _ _ ?_
      clear hKt Kt
      have hD32 : (D.map (Value.int .u8)).length = 32 := by simpa using (unhide HGD).len
      have HD32 := hide hD32
      clear hD32
      refine wpList_vput rfl 24 (.tmp 21) (.tmp 20) rfl G (k * 32) rfl (D.map (Value.int .u8)) (show Value.agg cd = _ by rw [unhide HCD]) (by rw [unhide HD32]; exact info32) (one_bytes D) _ cs (unhide HV4) (by rw [unhide HD32, unhide HVL]; have := (unhide HKM).2; have := Nat.mul_le_mul_right 32 this; omega) ?_
      intro W5 HW5 HG5
      have hnx := cells_next cs seed many k (unhide HKM).2 (unhide HVL) (unhide HVT)
      rw [← unhide HD] at hnx
      have HNX := hide hnx
      have HB5 := hide ((unhide HB4).grown (unhide HG5) (unhide HB4).size (fun i e => by injection e with e; have := unhide HG; omega))
      clear hnx HG5 HV4 HB4
      go_wp2_with fail
      go_roundg g
      case measure => omega
      case rel => exact ⟨k + 1, _, by have := unhide HKM; omega, by push_cast; rfl, unhide HW5, (unhide HNX).1, (unhide HNX).2, unhide HB5⟩
end Go.Proofs.YtceppmajbkmbdaaDoor
namespace Go.Proofs.YtceppmajbkmbdaaDoor
set_option linter.unusedSimpArgs false
set_option linter.unusedVariables false
open Go.RowKit

theorem pubs_ne (seed : List Int) (many : Nat) (h : 1 ≤ many) : pubsS seed many ≠ [] := fun e => by
  have := pubsS_length seed many
  rw [e] at this
  simp at this
  omega
set_option maxRecDepth 100000 in
set_option maxHeartbeats 4000000 in
theorem Public_ok (w : World) (A : Option Addr) (n c : Nat) (seed : List Int) (hn : n = seed.length) (hc : n ≤ c) (hA : Bt w A seed) (many : Nat) (u : Int) (hk : keyOk n (many : Int) u = true) (hT : DTab w) :
    Calls Tryd.prog 35 #[keyV A n c (many : Int) u] w fun x w' => x = .returned (.tuple #[dv (treeP (pubsS seed many)), .int .i64 0]) ∧ Below w.heap.size w w' := by
  have hk' := hk
  unfold keyOk at hk'
  rw [decide_eq_true_eq] at hk'
  have HT := hide hT; have HA := hide hA; have HK := hide hk
  have HN : Hid (n = seed.length ∧ 1 ≤ n ∧ n ≤ 1000 ∧ n ≤ c ∧ 1 ≤ many ∧ many ≤ 4096) := ⟨hn, by omega, by omega, hc, by omega, by omega⟩
  have hik := fun W => isKey_any A n c (many : Int) u W
  rw [hk] at hik
  have hpk := fun W (hb : Below w.heap.size w W) => publicKeys_any W A n c seed hn (by omega) (by omega) hc (hA.keep hb) many (by omega) u (hT.keep hb)
  unfold keyV at hik hpk ⊢
  have HIK := hide hik; have HPK := hide hpk
  clear hT hA hn hc hk hk' hik hpk
  go_enter Tryd.func35, Tryd.ntmps35
  go_upto_region 1 with fail
  generalize hX1 : w.alloc _ = W1
  have hB1 : Below w.heap.size w W1 := hX1 ▸ (Below.refl _ _).alloc (Nat.le_refl _) _
  have ho1 : VsAt W1 w.heap.size 40 [.slice A n c, .int .i64 (many : Int), .int .i64 u] := boxedV w W1 _ _ (by rw [← hX1]; rfl)
  have hz1 : W1.heap.size = w.heap.size + 1 := by rw [← hX1]; show (w.heap.push _).size = _; rw [Array.size_push]
  generalize hX2 : W1.alloc _ = W2
  have hB2 : Below W1.heap.size W1 W2 := hX2 ▸ (Below.refl _ _).alloc (Nat.le_refl _) _
  have ho2 : ByAt W2 W1.heap.size 24 zeros := newBy W1 W2 (by rw [← hX2]; rfl)
  rw [hz1] at ho2
  have HO1 := hide (ho1.keep hB2); have HO2 := hide ho2
  have HB2 := hide (thenB hB1 hB2)
  clear hX1 hX2 hB1 hB2 ho1 ho2 hz1
  refine wp_region_lit ?_
  refine wpList_load_mid rfl 40 (.tmp 1) rfl w.heap.size 0 rfl [.slice A n c, .int .i64 (many : Int), .int .i64 u] _ (unhide HO1).range Tryd.underlying40 rfl (by kernel_rfl) ?_
  try simp only [List.getElem_toArray, List.getElem_cons_zero, List.getElem_cons_succ, Act.put, List.setIfInBounds_toArray, List.set_cons_zero, List.set_cons_succ]
  go_wp2_with fail
  refine ((unhide HIK) W2).mono ?_; rintro x W3 ⟨rfl, hB3⟩
  have HB3 := hide (thenB (unhide HB2) hB3)
  have HO1' := hide ((unhide HO1).keep hB3); have HO2' := hide ((unhide HO2).keep hB3)
  clear hB3 HB2 HO1 HO2
  go_upto_region 3 with fail
  refine wp_region_lit ?_
  refine wpList_load_mid rfl 40 (.tmp 1) rfl w.heap.size 0 rfl [.slice A n c, .int .i64 (many : Int), .int .i64 u] _ (unhide HO1').range Tryd.underlying40 rfl (by kernel_rfl) ?_
  try simp only [List.getElem_toArray, List.getElem_cons_zero, List.getElem_cons_succ, Act.put, List.setIfInBounds_toArray, List.set_cons_zero, List.set_cons_succ]
  go_wp2_with fail
  refine ((unhide HPK) W3 (unhide HB3)).mono ?_; rintro x W4 ⟨A4, c4, rfl, hc4, hds4, _, hB4⟩
  have hBw := thenB (unhide HB3) hB4
  have htr := Tree_any W4 c4 (some A4) (pubsS seed many) hds4 (by rw [pubsS_length]; exact hc4) (by rw [pubsS_length]; have := unhide HN; omega) ((unhide HT).keep hBw)
  rw [pubsS_length, treeD, if_neg (pubs_ne seed many (unhide HN).2.2.2.2.1)] at htr
  have HTR := hide htr; have HB4 := hide hBw
  have HO4 := hide ((unhide HO2').keep hB4)
  clear hc4 hds4 hB4 hBw htr HB3 HO2'
  go_wp2_with fail
  refine (unhide HTR).mono ?_; rintro x W5 ⟨rfl, hB5⟩
  have HB5 := hide (thenB (unhide HB4) hB5)
  have HO5 := hide ((unhide HO4).keep hB5)
  clear hB5 HB4 HO4 HTR
  dsimp only
  rename_i KK hK
  refine hK _ _ ?_
  clear hK KK
  refine wpList_bstore rfl 24 (.tmp 2) (.tmp 10) rfl (w.heap.size + 1) rfl (treeP (pubsS seed many)) rfl 32 info32 (dg_tree _).len _ zeros (unhide HO5) rfl ?_
  intro W9 HW9 HG
  go_wp2_with fail
  try simp only [Exit.inBlock, Exit.then]
  exact bret2 rfl rfl (w.heap.size + 1) rfl _ _ (unhide HW9) (dg_tree _).len _ rfl ⟨rfl, (unhide HB5).grown (unhide HG) (unhide HB5).size (fun i e => by injection e with e; omega)⟩

set_option maxRecDepth 100000 in
set_option maxHeartbeats 4000000 in
theorem Public_bad (w : World) (A : Option Addr) (n c : Nat) (many u : Int) (hk : keyOk n many u = false) :
    Calls Tryd.prog 35 #[keyV A n c many u] w fun x w' => x = .returned (.tuple #[dv zeros, .int .i64 40]) ∧ Below w.heap.size w w' := by
  have hik := fun W => isKey_any A n c many u W
  rw [hk] at hik
  unfold keyV at hik ⊢
  have HIK := hide hik
  clear hik hk
  go_enter Tryd.func35, Tryd.ntmps35
  go_upto_region 1 with fail
  generalize hX1 : w.alloc _ = W1
  have hB1 : Below w.heap.size w W1 := hX1 ▸ (Below.refl _ _).alloc (Nat.le_refl _) _
  have ho1 : VsAt W1 w.heap.size 40 [.slice A n c, .int .i64 many, .int .i64 u] := boxedV w W1 _ _ (by rw [← hX1]; rfl)
  have hz1 : W1.heap.size = w.heap.size + 1 := by rw [← hX1]; show (w.heap.push _).size = _; rw [Array.size_push]
  generalize hX2 : W1.alloc _ = W2
  have hB2 : Below W1.heap.size W1 W2 := hX2 ▸ (Below.refl _ _).alloc (Nat.le_refl _) _
  have ho2 : ByAt W2 W1.heap.size 24 zeros := newBy W1 W2 (by rw [← hX2]; rfl)
  rw [hz1] at ho2
  have HO1 := hide (ho1.keep hB2); have HO2 := hide ho2
  have HB2 := hide (thenB hB1 hB2)
  clear hX1 hX2 hB1 hB2 ho1 ho2 hz1
  refine wp_region_lit ?_
  refine wpList_load_mid rfl 40 (.tmp 1) rfl w.heap.size 0 rfl [.slice A n c, .int .i64 many, .int .i64 u] _ (unhide HO1).range Tryd.underlying40 rfl (by kernel_rfl) ?_
  try simp only [List.getElem_toArray, List.getElem_cons_zero, List.getElem_cons_succ, Act.put, List.setIfInBounds_toArray, List.set_cons_zero, List.set_cons_succ]
  go_wp2_with fail
  refine ((unhide HIK) W2).mono ?_; rintro x W3 ⟨rfl, hB3⟩
  have HB3 := hide (thenB (unhide HB2) hB3)
  have HO2' := hide ((unhide HO2).keep hB3)
  clear hB3 HB2 HO1 HO2
  go_upto_region 2 with fail
  refine wp_region_lit ?_
  refine wpList_build0 rfl 24 rfl (dv zeros) (build_zero _) ?_
  refine wpList_bstore rfl 24 (.tmp 2) (.tmp 7) rfl (w.heap.size + 1) rfl zeros rfl 32 info32 rfl _ zeros (unhide HO2') rfl ?_
  intro W9 HW9 HG
  go_wp2_with fail
  try simp only [Exit.inBlock, Exit.then]
  exact bret2 rfl rfl (w.heap.size + 1) rfl _ _ (unhide HW9) rfl _ rfl ⟨rfl, (unhide HB3).grown (unhide HG) (unhide HB3).size (fun i e => by injection e with e; omega)⟩

theorem vret2 {fn : Func} {R : Ending → World → Prop} {a : Act} {w : World} {t u : Tmp} {ty : TypeId} (h : fn.results = #[.cell t ty, .tmp u]) (hd : a.defers = []) (N : Nat) (hp : a.tmps.getD t undef = .pointer (some ⟨N, 0, none⟩)) (T : TypeId) (cs : List Value) (h0 : VsAt w N T cs) (d : TypeDesc) (hu : Tryd.prog.underlying ty = some d) (hr : d.isRow = true) (hi : (Tryd.prog.info? ty).map (·.size) = some cs.length) (v : Value) (hv : a.tmps.getD u undef = v) (hR : R (.returned (.tuple #[.agg cs.toArray, v])) w) :
    bodyPost Tryd.prog fn R .ret a w := by
  subst hv
  exact bodyPost_ret (v := .tuple #[.agg cs.toArray, a.tmps.getD u undef]) (results_cell_tmp_mid h _ _ N cs _ hp h0.range hu hr hi) hd hR
def newV (ok : Bool) (A : Option Addr) (n c : Nat) (m : Int) : Value := .tuple (if ok then #[keyV A n c m 0, .int .i64 0] else #[keyV none 0 0 0 0, .int .i64 40])
set_option maxRecDepth 100000 in
set_option maxHeartbeats 4000000 in
theorem New_any (w : World) (A : Option Addr) (n c : Nat) (m : Int) :
    Calls Tryd.prog 27 #[.slice A n c, .int .i64 m] w fun x w' => x = .returned (newV (keyOk n m 0) A n c m) ∧ Below w.heap.size w w' := by
  have hik := fun W => isKey_any A n c m 0 W
  have one3 : ∀ (B : Option Addr) (x y : Nat) (p q : Int), ∀ v ∈ ([.slice B x y, .int .i64 p, .int .i64 q] : List Value), v.oneCell' = true := fun B x y p q v hv => by
    simp only [List.mem_cons, List.not_mem_nil, or_false] at hv
    rcases hv with rfl | rfl | rfl <;> rfl
  unfold keyV at hik
  obtain ⟨ok, hok⟩ : ∃ b, b = keyOk n m 0 := ⟨_, rfl⟩
  rw [← hok] at hik ⊢
  have HIK := hide hik; have H13 := hide one3
  clear hik hok one3
  unfold newV keyV
  cases ok
  all_goals
    go_enter Tryd.func27, Tryd.ntmps27
    go_upto_region 1 with fail
    generalize hX1 : w.alloc _ = W1
    have hB1 : Below w.heap.size w W1 := hX1 ▸ (Below.refl _ _).alloc (Nat.le_refl _) _
    have ho1 : VsAt W1 w.heap.size 40 [.slice none 0 0, .int .i64 0, .int .i64 0] := boxedV w W1 _ _ (by rw [← hX1]; rfl)
    have HB1 := hide hB1; have HO1 := hide ho1
    clear hX1 hB1 ho1
    refine wp_region_lit ?_
    refine wpList_plain rfl fun Kt hKt => ?_
    go_simp
    refine hKt _ _ ?_
    clear hKt Kt
    refine wpList_plain rfl fun Kt hKt => ?_
    go_simp
    refine hKt _ _ ?_
    clear hKt Kt
    refine wpList_plain rfl fun Kt hKt => ?_
    go_simp
    refine hKt _ _ ?_
    clear hKt Kt
    refine wpList_vput rfl 40 (.tmp 4) (.tmp 8) rfl w.heap.size 0 rfl [.slice A n c, .int .i64 m, .int .i64 0] rfl (by kernel_rfl) (unhide H13 _ _ _ _ _) _ _ (unhide HO1) (by simp) ?_
    intro W2 HW2 HG2
    have hw2 := unhide HW2
    rw [spliceV_all _ _ (by simp)] at hw2
    have HW := hide hw2
    have HB2 := hide ((unhide HB1).grown (unhide HG2) (unhide HB1).size (fun i e => by injection e with e; omega))
    clear hw2 HW2 HG2 HO1 HB1
    try simp only [List.getElem_toArray, List.getElem_cons_zero, List.getElem_cons_succ, Act.put, List.setIfInBounds_toArray, List.set_cons_zero, List.set_cons_succ]
    go_upto_region 2 with fail
    refine wp_region_lit ?_
    refine wpList_load_mid rfl 40 (.tmp 4) rfl w.heap.size 0 rfl [.slice A n c, .int .i64 m, .int .i64 0] _ (unhide HW).range Tryd.underlying40 rfl (by kernel_rfl) ?_
    try simp only [List.getElem_toArray, List.getElem_cons_zero, List.getElem_cons_succ, Act.put, List.setIfInBounds_toArray, List.set_cons_zero, List.set_cons_succ]
    go_wp2_with fail
    refine ((unhide HIK) W2).mono ?_; rintro x W3 ⟨rfl, hB3⟩
    have HW3 := hide ((unhide HW).keep hB3)
    have HB3 := hide (thenB (unhide HB2) hB3)
    clear hB3 HW HB2
  · go_upto_region 3 with fail
    refine wp_region_lit ?_
    refine wpList_plain rfl fun Kt hKt => ?_
    go_simp
    refine hKt _ _ ?_
    clear hKt Kt
    refine wpList_vput rfl 40 (.tmp 4) (.tmp 12) rfl w.heap.size 0 rfl [.slice none 0 0, .int .i64 0, .int .i64 0] rfl (by kernel_rfl) (unhide H13 _ _ _ _ _) _ _ (unhide HW3) (by simp) ?_
    intro W4 HW4 HG4
    have hw4 := unhide HW4
    rw [spliceV_all _ _ (by simp)] at hw4
    have HW := hide hw4
    clear hw4 HW4
    go_wp2_with fail
    try simp only [Exit.inBlock, Exit.then]
    exact vret2 rfl rfl w.heap.size rfl _ _ (unhide HW) _ Tryd.underlying40 rfl (by kernel_rfl) _ rfl ⟨rfl, (unhide HB3).grown (unhide HG4) (unhide HB3).size (fun i e => by injection e with e; omega)⟩
  · go_upto_region 4 with fail
    refine wp_region_lit ?_
    refine wpList_load_mid rfl 40 (.tmp 4) rfl w.heap.size 0 rfl [.slice A n c, .int .i64 m, .int .i64 0] _ (unhide HW3).range Tryd.underlying40 rfl (by kernel_rfl) ?_
    try simp only [List.getElem_toArray, List.getElem_cons_zero, List.getElem_cons_succ, Act.put, List.setIfInBounds_toArray, List.set_cons_zero, List.set_cons_succ]
    refine wpList_vput rfl 40 (.tmp 4) (.tmp 13) rfl w.heap.size 0 rfl [.slice A n c, .int .i64 m, .int .i64 0] rfl (by kernel_rfl) (unhide H13 _ _ _ _ _) _ _ (unhide HW3) (by simp) ?_
    intro W4 HW4 HG4
    have hw4 := unhide HW4
    rw [spliceV_all _ _ (by simp)] at hw4
    have HW := hide hw4
    clear hw4 HW4
    go_wp2_with fail
    try simp only [Exit.inBlock, Exit.then]
    exact vret2 rfl rfl w.heap.size rfl _ _ (unhide HW) _ Tryd.underlying40 rfl (by kernel_rfl) _ rfl ⟨rfl, (unhide HB3).grown (unhide HG4) (unhide HB3).size (fun i e => by injection e with e; omega)⟩
end Go.Proofs.YtceppmajbkmbdaaDoor
