/- Contracts over the program of lexis: bytes of an argument are appended; what a remark leaves. -/
import Derived.Test.YtjppjbkndfbnhaaDoorLexBk
import Derived.Test.YtjppjbkndfbnhaaDoorLexComMath
import Derived.Maps.AppendAt
namespace Go.Proofs.YtjppjbkndfbnhaaDoor
set_option linter.unusedSimpArgs false
set_option linter.unusedVariables false
open Go.RowKit Go.LawClose

theorem Src.news {w : World} {a : Addr} {s : ByteArray} (h : Src w (some a) s) : ∀ j u, (Lib.byteCells (L s))[j]? = some u → w.cell? (a.add j) = some u := by
  rcases h with ⟨e, _⟩ | ⟨b, o, e, hlt, hc⟩
  · cases e
  · injection e with e
    subst e
    intro j u hj
    have hjl := (List.getElem?_eq_some_iff.1 hj).1
    rw [Lib.byteCells_length, L_len] at hjl
    have e : (⟨b, o, none⟩ : Addr).add j = ⟨b, o + j, none⟩ := by unfold Addr.add; split <;> simp_all
    rw [e, hc j hjl, ← hj]
    unfold Lib.byteCells
    rw [List.getElem?_map, List.getElem?_eq_getElem (by rw [L_len]; exact hjl)]
    rfl
theorem run_append_Src {w : World} {base : Nat} {v : Value} {l : List Lx.B} (h : OwnB w base v l) (ty : TypeId) (A : Option Addr) (n c : Nat) (s : ByteArray) (hn : s.size = n) (hA : Src w A s) (hc : A = none → c = 0) (h63 : l.length + n ≤ 1000000000) (hbase : base ≤ w.heap.size) :
    ∃ v' w', (Builtin.append_ #[22, 22] ty #[v, .slice A n c]).run Tryd.prog w = .ok v' w' ∧ OwnB w' base v' (l ++ L s) ∧ w.grownBy w' v.ownBlock := by
  obtain ⟨i0, hi, hz0, hz1, hz2⟩ := info_parts infoByte
  subst hn
  cases A with
  | none =>
    have h0 : s.size = 0 := by
      rcases hA with ⟨_, h0⟩ | ⟨b, o, e, _⟩
      · exact h0
      · cases e
    have hl : L s = [] := List.eq_nil_iff_length_eq_zero.2 (by rw [L_len]; exact h0)
    obtain rfl := hc rfl
    rw [h0, hl]
    exact ⟨v, w, run_append_owned_none (P := Tryd.prog) w base 22 ty 5 i0 1 Tryd.underlying22 hi v _ _ h, by rw [List.append_nil]; exact h, ⟨rfl, rfl, rfl, Nat.le_refl _, fun _ _ _ => rfl⟩⟩
  | some a =>
    obtain ⟨v', w', hr, h2, h3, _, _⟩ := run_append_own_at (P := Tryd.prog) w base 22 ty 5 i0 (.int .u8 0) 1 1 Tryd.underlying22 hi hz0 hz1 hz2 rfl (by decide) v _ _ h a s.size c (Lib.byteCells (L s)) (by rw [Lib.byteCells_length, L_len]; omega) hA.news (fun u hu => by obtain ⟨y, _, rfl⟩ := List.mem_map.1 hu; rfl) (by unfold maxLen; omega) (by omega) hbase
    exact ⟨v', w', hr, by unfold OwnB; rw [Lib.byteCells_append, List.length_append, L_len]; exact h2, h3⟩
theorem wpList_app {ops : Array Oper} {rest : List Oper} {o : Oper} {a : Act} {w : World} {Q : Exit → Act → World → Prop} (hgd : o.guard = none) (s x : Operand) (t : TypeId) (ho : o.op = .call { callee := .builtin .append, args := #[s, x], argTypes := #[t, t] }) (v u v' : Value) (w' : World) (hs : a.eval s = v) (hx : a.eval x = u)
    (hr : (Builtin.append_ #[t, t] o.type #[v, u]).run Tryd.prog w = .ok v' w') (h : wpList Tryd.prog ops Q rest (a.put o.dst v') w') : wpList Tryd.prog ops Q (o :: rest) a w := by
  refine wpList_plain hgd fun K hK => ?_
  unfold Oper.wp execOp
  simp only [ho, resolve, invoke, builtin, Sem.run_bind, Sem.run_pure, Result.andThen_ok, List.map_toArray, List.map_cons, List.map_nil, hs, hx, hr]
  exact hK _ _ h
theorem own_newB (w : World) : OwnB (w.alloc (.cells #[] 5)) w.heap.size (.slice (some ⟨w.heap.size, 0, none⟩) 0 0) [] := World.ownsRow_lit w #[] 0 (Nat.le_refl _) (Nat.zero_le _) rfl
theorem OwnB.down {w : World} {B B' : Nat} {v : Value} {l : List Lx.B} (h : OwnB w B v l) (hB : B' ≤ B) : OwnB w B' v l := ownMono h hB
theorem OwnB.drewN {w : World} {B : Nat} {v : Value} {l : List Lx.B} (h : OwnB w B v l) (n : Nat) : OwnB (w.drewN n) B v l := h
/-- the bytes of a remark that stay -/
def plainB (l : List Lx.B) : List Lx.B := l.filter fun c => c != 10 && c != 34
theorem plain_plainB (l : List Lx.B) : Lx.Plain (plainB l) := fun c hc => by
  have := (List.mem_filter.1 hc).2
  simpa using this
theorem plainB_yes {l : List Lx.B} {c : Lx.B} (h1 : c ≠ 10) (h2 : c ≠ 34) : plainB (l ++ [c]) = plainB l ++ [c] := by
  unfold plainB
  rw [List.filter_append]
  simp [h1, h2]
theorem plainB_no {l : List Lx.B} {c : Lx.B} (h : c = 10 ∨ c = 34) : plainB (l ++ [c]) = plainB l := by
  unfold plainB
  rw [List.filter_append]
  rcases h with rfl | rfl <;> simp
theorem plainB_len (l : List Lx.B) : (plainB l).length ≤ l.length := List.length_filter_le _ _
/-- the tail of a source -/
theorem Src.tail {w : World} {b o : Nat} {s : ByteArray} (h : Src w (some ⟨b, o, none⟩) s) (k : Nat) (hk : k ≤ s.size) : Src w (some ⟨b, o + k, none⟩) (s.extract k s.size) := by
  rcases h with ⟨e, _⟩ | ⟨b', o', e, hlt, hc⟩
  · cases e
  · injection e with e
    injection e with e1 e2 _
    subst e1 e2
    refine .inr ⟨b, o + k, rfl, hlt, fun i hi => ?_⟩
    have hi' := hi
    rw [ByteArray.size_extract] at hi'
    rw [Nat.add_assoc, hc (k + i) (by omega), ByteArray.getElem_extract]
theorem Src.zero {w : World} {A : Option Addr} {s : ByteArray} (h : Src w A s) (x : ByteArray) (hx : x.size = 0) : Src w A x := by
  rcases h with ⟨e, _⟩ | ⟨b, o, e, hlt, _⟩
  · exact .inl ⟨e, hx⟩
  · exact .inr ⟨b, o, e, hlt, fun i hi => by omega⟩
end Go.Proofs.YtjppjbkndfbnhaaDoor
