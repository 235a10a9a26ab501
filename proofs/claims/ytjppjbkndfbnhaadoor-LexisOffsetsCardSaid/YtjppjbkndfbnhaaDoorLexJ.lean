/- Contracts over the program of lexis: rows of bytes; quoted texts and tokens are appended. -/
import Derived.Test.YtjppjbkndfbnhaaDoorLexI
import Derived.Test.YtjppjbkndfbnhaaDoorLexJMath
import Derived.Lib.AppendStr
namespace Go.Proofs.YtjppjbkndfbnhaaDoor
set_option linter.unusedSimpArgs false
set_option linter.unusedVariables false
open Go.RowKit

theorem wpList_appB {w : World} {ops : Array Oper} {rest : List Oper} {o : Oper} {a : Act} {Q : Exit → Act → World → Prop} (hgd : o.guard = none) (s x : Operand)
    (ho : o.op = .call { callee := .builtin .append, args := #[s, x], argTypes := #[22, 22] })
    (base : Nat) (v : Value) (l news : List Lx.B) (g m c : Nat) (hs : a.eval s = v) (hx : a.eval x = .slice (some ⟨g, 0, none⟩) m c) (hm : news.length = m) (hown : OwnB w base v l)
    (hn : ∀ j u, (Lib.byteCells news)[j]? = some u → w.cell? ((⟨g, 0, none⟩ : Addr).add j) = some u) (hl : l.length + news.length ≤ 1000000000) (hbase : base ≤ w.heap.size)
    (h : ∀ v' w', OwnB w' base v' (l ++ news) → w.grownBy w' v.ownBlock → wpList Tryd.prog ops Q rest (a.put o.dst v') w') : wpList Tryd.prog ops Q (o :: rest) a w := by
  obtain ⟨i0, hi, hz0, hz1, hz2⟩ := info_parts infoByte
  subst hm
  refine wpList_own5 hgd s x 22 ho base 5 i0 (.int .u8 0) 1 1 Tryd.underlying22 hi hz0 hz1 hz2 rfl (by decide) v l.length (Lib.byteCells l) hs hown ⟨g, 0, none⟩ news.length c (Lib.byteCells news) hx (by rw [Lib.byteCells_length]; omega) hn (fun u hu => ?_) (by unfold maxLen; omega) (by omega) hbase fun v' w' h2 h3 _ => h v' w' ?_ h3
  · obtain ⟨y, _, rfl⟩ := List.mem_map.1 hu; rfl
  · unfold OwnB
    rw [Lib.byteCells_append, List.length_append]
    exact h2
theorem oneB {w : World} {g : Nat} {c : Lx.B} (h : w.cell? ⟨g, 0, none⟩ = some (.int .u8 (c.toNat : Int))) : ∀ j u, (Lib.byteCells [c])[j]? = some u → w.cell? ((⟨g, 0, none⟩ : Addr).add j) = some u := oneAt h
theorem twoB {w : World} {g : Nat} {c d : Lx.B} (h : w.cell? ⟨g, 0, none⟩ = some (.int .u8 (c.toNat : Int))) (h1 : w.cell? ⟨g, 1, none⟩ = some (.int .u8 (d.toNat : Int))) : ∀ j u, (Lib.byteCells [c, d])[j]? = some u → w.cell? ((⟨g, 0, none⟩ : Addr).add j) = some u := twoAt h h1
theorem wpList_appS {w : World} {ops : Array Oper} {rest : List Oper} {o : Oper} {a : Act} {Q : Exit → Act → World → Prop} (hgd : o.guard = none) (s x : Operand)
    (ho : o.op = .call { callee := .builtin .append, args := #[s, x], argTypes := #[22, 9] })
    (base : Nat) (v : Value) (l : List Lx.B) (t : ByteArray) (hs : a.eval s = v) (hx : a.eval x = .string t) (hown : OwnB w base v l)
    (hl : l.length + t.size ≤ 1000000000) (hbase : base ≤ w.heap.size)
    (h : ∀ v' w', OwnB w' base v' (l ++ L t) → w.grownBy w' v.ownBlock → wpList Tryd.prog ops Q rest (a.put o.dst v') w') : wpList Tryd.prog ops Q (o :: rest) a w := by
  obtain ⟨i0, hi, hz0, hz1, hz2⟩ := info_parts infoByte
  obtain ⟨v', w', hr, h2, h3, _⟩ := Lib.run_append_own_string (P := Tryd.prog) w base 22 9 o.type 5 i0 Tryd.underlying22 Tryd.underlying9 hi hz0 hz1 hz2 v l.length (Lib.byteCells l) hown t (by unfold maxLen; omega) (by omega) hbase
  refine wpList_plain hgd fun K hK => ?_
  unfold Oper.wp execOp
  simp only [ho, resolve, invoke, builtin, Sem.run_bind, Sem.run_pure, Result.andThen_ok, List.map_toArray, List.map_cons, List.map_nil, hs, hx, hr]
  refine hK _ _ (h v' w' ?_ h3)
  unfold OwnB
  rw [Lib.byteCells_append, List.length_append, L_len]
  exact h2

/-- how a piece is appended -/
def Wrote (B : Nat) (w : World) (l : List Lx.B) (e : Ending) (w' : World) : Prop := ∃ v, e = .returned v ∧ OwnB w' B v l ∧ Below B w w'
structure QInv (B : Nat) (w : World) (bs : List Lx.B) (s : ByteArray) (k : Nat) (v : Value) (wr : World) : Prop where
  own : OwnB wr B v (bs ++ 34 :: Lx.esc ((L s).take k))
  below : Below B w wr
theorem L_take (s : ByteArray) (k : Nat) (h : k < s.size) : (L s).take (k + 1) = (L s).take k ++ [s[k]] := by
  rw [List.take_succ_eq_append_getElem (by rw [L_len]; exact h)]
  rfl
theorem QInv.step {B : Nat} {w wr w2 : World} {bs : List Lx.B} {s : ByteArray} {k : Nat} {v v2 : Value} {o : Obj} (h : QInv B w bs s k v wr) (hB : B ≤ wr.heap.size) (hk : k < s.size) (news : List Lx.B) (hn : news = Lx.esc1 s[k])
    (ho : OwnB w2 B v2 (bs ++ 34 :: (Lx.esc ((L s).take k) ++ news))) (hg : (wr.alloc o).grownBy w2 v.ownBlock) : QInv B w bs s (k + 1) v2 w2 := by
  refine ⟨?_, (h.below.alloc hB o).grown hg (by simp; omega) (own_lt h.own)⟩
  rw [L_take s k hk, Lx.esc_snoc, ← hn]
  exact ho
set_option maxRecDepth 100000 in
set_option maxHeartbeats 4000000 in
theorem quoted_any (B : Nat) (v : Value) (bs : List Lx.B) (s : ByteArray) (w : World) (hO : OwnB w B v bs) (hB : B ≤ w.heap.size) (hb : bs.length ≤ 1000000) (hs : s.size ≤ 1000000) :
    Calls Tryd.prog 55 #[v, .string s] w (Wrote B w (bs ++ Lx.quoteT (L s))) := by
  have HO := hide hO
  clear hO
  go_enter Tryd.func55, Tryd.ntmps55
  go_wp2_with (at_builtin; refine wpList_appB rfl _ _ rfl B _ bs [34] w.heap.size 1 1 rfl rfl rfl (World.ownsRow.alloc (unhide HO) _) (oneB ?c1) ?c2 ?c3 ?_)
  case c1 => go_simp
  case c2 => simp; omega
  case c3 => simp; omega
  intro v1 w1 hown hgrow
  have hB1 : Below B w w1 := ((Below.refl _ _).alloc hB _).grown hgrow (by simp; omega) (own_lt (unhide HO))
  have HI1 := hide (QInv.mk (by rw [List.take_zero]; exact hown) hB1 : QInv B w bs s 0 v1 w1)
  clear hown hgrow hB1
  go_wp2_with fail
  go_loopw [0, 12] (fun v i wr => ∃ k : Nat, k ≤ s.size ∧ i = .int .i64 (k : Int) ∧ QInv B w bs s k v wr) (fun _ i _ => s.size - (intOf i).toNat)
  case atStart => exact ⟨0, Nat.zero_le _, rfl, unhide HI1⟩
  case round =>
    obtain ⟨k, hk, rfl, hinv⟩ := hrel
    have hel : (bs ++ 34 :: Lx.esc ((L s).take k)).length ≤ 5000000 := by
      have := Lx.esc_len ((L s).take k)
      have h2 : ((L s).take k).length ≤ k := List.length_take_le _ _
      rw [List.length_append, List.length_cons]
      omega
    have hBr : B ≤ wr.heap.size := Nat.le_trans hB hinv.below.size
    have HI := hide hinv
    have HEL := hide hel
    clear hinv hel
    by_cases hlt : k < s.size
    · by_cases hq : s[k] = 34 ∨ s[k] = 92
      · have he : Lx.esc1 s[k] = [92, s[k]] := by unfold Lx.esc1; rw [if_pos hq]
        have HE := hide he.symm
        rcases hq with h34 | h92
        · have q1 : ((s[k].toNat : Int) == 34) = true := by rw [h34]; rfl
          clear he h34
          go_wp2_with (at_builtin; refine wpList_appB rfl _ _ rfl B _ (bs ++ 34 :: Lx.esc ((L s).take k)) [92, s[k]] wr.heap.size 2 2 rfl rfl rfl (World.ownsRow.alloc (unhide HI).own _) (twoB ?c1 ?c2) ?c3 ?c4 ?_)
          case c1 => go_simp
          case c2 => go_simp
          case c3 => have := unhide HEL; simp only [List.length_cons, List.length_nil]; omega
          case c4 => simp; omega
          intro v2 w2 hown hgrow
          have HN := hide ((unhide HI).step hBr hlt _ (unhide HE) hown hgrow)
          clear hown hgrow
          go_wp2_with fail
          go_roundw
          case rel => exact ⟨k + 1, by omega, by go_num, unhide HN⟩
          case measure => simp [intOf]; omega
        · have q1 : ((s[k].toNat : Int) == 34) = false := by rw [h92]; rfl
          have q2 : ((s[k].toNat : Int) == 92) = true := by rw [h92]; rfl
          clear he h92
          go_wp2_with (at_builtin; refine wpList_appB rfl _ _ rfl B _ (bs ++ 34 :: Lx.esc ((L s).take k)) [92, s[k]] wr.heap.size 2 2 rfl rfl rfl (World.ownsRow.alloc (unhide HI).own _) (twoB ?c1 ?c2) ?c3 ?c4 ?_)
          case c1 => go_simp
          case c2 => go_simp
          case c3 => have := unhide HEL; simp only [List.length_cons, List.length_nil]; omega
          case c4 => simp; omega
          intro v2 w2 hown hgrow
          have HN := hide ((unhide HI).step hBr hlt _ (unhide HE) hown hgrow)
          clear hown hgrow
          go_wp2_with fail
          go_roundw
          case rel => exact ⟨k + 1, by omega, by go_num, unhide HN⟩
          case measure => simp [intOf]; omega
      · have q1 : ((s[k].toNat : Int) == 34) = false := by
          rw [beq_eq_false_iff_ne]; intro e; exact hq (.inl ((Lx.eq_byte (n := 34) (by decide)).2 (by omega)))
        have q2 : ((s[k].toNat : Int) == 92) = false := by
          rw [beq_eq_false_iff_ne]; intro e; exact hq (.inr ((Lx.eq_byte (n := 92) (by decide)).2 (by omega)))
        by_cases h10 : s[k] = 10
        · have he : Lx.esc1 s[k] = [92, 110] := by unfold Lx.esc1; rw [if_neg hq, if_pos h10]
          have HE := hide he.symm
          have q3 : ((s[k].toNat : Int) == 10) = true := by rw [h10]; rfl
          clear he h10 hq
          go_wp2_with (at_builtin; refine wpList_appB rfl _ _ rfl B _ (bs ++ 34 :: Lx.esc ((L s).take k)) [92, 110] wr.heap.size 2 2 rfl rfl rfl (World.ownsRow.alloc (unhide HI).own _) (twoB ?c1 ?c2) ?c3 ?c4 ?_)
          case c1 => go_simp
          case c2 => go_simp
          case c3 => have := unhide HEL; simp only [List.length_cons, List.length_nil]; omega
          case c4 => simp; omega
          intro v2 w2 hown hgrow
          have HN := hide ((unhide HI).step hBr hlt _ (unhide HE) hown hgrow)
          clear hown hgrow
          go_wp2_with fail
          go_roundw
          case rel => exact ⟨k + 1, by omega, by go_num, unhide HN⟩
          case measure => simp [intOf]; omega
        · have he : Lx.esc1 s[k] = [s[k]] := by unfold Lx.esc1; rw [if_neg hq, if_neg h10]
          have HE := hide he.symm
          have q3 : ((s[k].toNat : Int) == 10) = false := by
            rw [beq_eq_false_iff_ne]; intro e; exact h10 ((Lx.eq_byte (n := 10) (by decide)).2 (by omega))
          clear he h10 hq
          go_wp2_with (at_builtin; refine wpList_appB rfl _ _ rfl B _ (bs ++ 34 :: Lx.esc ((L s).take k)) [s[k]] wr.heap.size 1 1 rfl rfl rfl (World.ownsRow.alloc (unhide HI).own _) (oneB ?c1) ?c3 ?c4 ?_)
          case c1 => go_simp
          case c3 => have := unhide HEL; simp only [List.length_cons, List.length_nil]; omega
          case c4 => simp; omega
          intro v2 w2 hown hgrow
          have HN := hide ((unhide HI).step hBr hlt _ (unhide HE) hown hgrow)
          clear hown hgrow
          go_wp2_with fail
          go_roundw
          case rel => exact ⟨k + 1, by omega, by go_num, unhide HN⟩
          case measure => simp [intOf]; omega
    · have hfin : bs ++ 34 :: (Lx.esc ((L s).take k) ++ [34]) = bs ++ Lx.quoteT (L s) := by
        rw [List.take_of_length_le (by rw [L_len]; omega)]
        simp [Lx.quoteT]
      have HF := hide hfin
      clear hfin
      go_wp2_with (at_builtin; refine wpList_appB rfl _ _ rfl B _ (bs ++ 34 :: Lx.esc ((L s).take k)) [34] wr.heap.size 1 1 rfl rfl rfl (World.ownsRow.alloc (unhide HI).own _) (oneB ?c1) ?c3 ?c4 ?_)
      case c1 => go_simp
      case c3 => have := unhide HEL; simp only [List.length_cons, List.length_nil]; omega
      case c4 => simp; omega
      intro v2 w2 hown hgrow
      rw [unhide HF] at hown
      have HO2 := hide hown
      have HB2 := hide (((unhide HI).below.alloc hBr _).grown hgrow (by simp; omega) (own_lt (unhide HI).own))
      clear hown hgrow
      go_wp2_with fail
      go_ret
      exact ⟨_, rfl, unhide HO2, unhide HB2⟩
end Go.Proofs.YtjppjbkndfbnhaaDoor
