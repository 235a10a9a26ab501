/- Contracts over the codec's program, each for all bytes: the reader's open, closes, number. -/
import Derived.Test.YtclpbjdnollfcaaDoorCodReader
import Derived.Laws.BytesArg
import Derived.Laws.IdiomStrings
namespace Go.Proofs.YtclpbjdnollfcaaDoor
set_option linter.unusedSimpArgs false
set_option linter.unusedVariables false
open Go.RowKit

/-- the package-level variables that the library reads, in every world that leaves them alone -/
abbrev gTop : Nat := 5 + 1
def Env (w : World) : Prop := ∀ w', Below gTop w w' → Lib.TabIs Tryd.prog w' "internal/strconv.uint64pow10" .u64 Lib.pow10Tab ∧
  (∃ t p, w'.cell? ⟨2, 0, none⟩ = some (.iface t p)) ∧ (∃ t p, w'.cell? ⟨3, 0, none⟩ = some (.iface t p))
theorem Env.along {w w' : World} (h : Env w) (hb : Below gTop w w') : Env w' := fun w'' h' => h w'' (hb.trans h')
theorem grownBelow {w w' : World} {rb : Nat} {B : Nat} (h : w.grownBy w' (some rb)) (hB : B ≤ w.heap.size) (hr : B ≤ rb) : Below B w w' := (Below.refl B w).grown h hB (fun k hk => by injection hk with hk; omega)
theorem Env.grown {w w' : World} {rb : Nat} (h : Env w) (hg : w.grownBy w' (some rb)) (hs : gTop ≤ w.heap.size) (hr : gTop ≤ rb) : Env w' := h.along (grownBelow hg hs hr)
theorem belowGrown {w w' : World} (rb : Nat) (h : Below w.heap.size w w') : w.grownBy w' (some rb) := ⟨h.os, h.tape, h.output, h.size, fun k hk _ => h.block k hk⟩
theorem RdAt.lt {w : World} {rb : Nat} {bs : List UInt8} (h : RdAt w rb bs) : rb < w.heap.size := by
  obtain ⟨A, _, hc, _⟩ := h.open
  exact World.block_lt_of_cell? w _ hc
theorem RdAt.below {w w' : World} {rb : Nat} {bs : List UInt8} (h : RdAt w rb bs) (hb : Below w.heap.size w w') : RdAt w' rb bs := by
  have hlt := h.lt
  obtain ⟨A, hA, hh, hb', hl⟩ := h
  exact ⟨A, hA, (hb.block rb hlt).trans hh, hb'.grown (belowGrown rb hb), hl⟩

theorem RdAt.keep {w w' : World} {rb : Nat} {bs : List UInt8} (h : RdAt w rb bs) (hb : Below (rb + 1) w w') : RdAt w' rb bs := by
  obtain ⟨A, hA, hh, hb', hl⟩ := h
  exact ⟨A, hA, (hb.block rb (by omega)).trans hh, hb'.keep (hb.mono (by omega)), hl⟩
/-- a value that has been read does not lie in the reader's own block -/
theorem VAt.grownR {w w' : World} {rb : Nat} {x : Value} {t : TypeId} {fz : Nat × Nat} {V : Va} {v : Value} (hh : w.heap[rb]? = some (.cells #[x] t fz)) (hx : ∀ s, x ≠ .string s) (h : VAt w V v) (hg : w.grownBy w' (some rb)) : VAt w' V v := by
  induction h with
  | mk k n s l ks A c A' c' hk hn hs hl hks hA hA' b o vv h5 hat hkat ih =>
    refine .mk k n s l ks A c A' c' hk hn hs hl hks hA hA' b o vv (fun i hi => ⟨(h5 i hi).1, ?_⟩) ih ?_
    · obtain ⟨_, x0, x1, x2, x3, x4, e, c0, c1, c2, c3, c4⟩ := h5 i hi
      have hne : b ≠ rb := by
        intro e
        subst e
        rw [cell_of_row w b _ _ t fz hh] at c1
        simp at c1
      have hr : some b ≠ some rb := fun e => hne (by simpa using e)
      exact ⟨x0, x1, x2, x3, x4, e, hg.cell c0 hr, hg.cell c1 hr, hg.cell c2 hr, hg.cell c3 hr, hg.cell c4 hr⟩
    · intro i s hs
      obtain ⟨b', o', e, hc, hz⟩ := hkat i s hs
      have hne : b' ≠ rb := by
        intro e
        subst e
        rw [cell_of_row w b' _ _ t fz hh] at hc
        have := List.getElem?_eq_some_iff.1 (by simpa using hc : [x][o' + i]? = some (.string s))
        obtain ⟨h1, h2⟩ := this
        simp at h1
        simp [h1] at h2
        exact hx s h2
      exact ⟨b', o', e, hg.cell hc (fun e => hne (by simpa using e)), hz⟩

theorem conv_any {w : World} {rb : Nat} {bs : List UInt8} {v : Value} (h : TookBytes rb bs v w) : (convert 28 9 v).run Tryd.prog w = .ok (.string ⟨bs.toArray⟩) w := by
  obtain ⟨A, hA, rfl, hb⟩ := h
  rcases hA with ⟨rfl, rfl⟩ | ⟨g, o, rfl, hne⟩
  · exact run_convert_bytes_nil w 28 5 Tryd.underlying28 Tryd.underlying5 0 0 9 Tryd.underlying9
  · refine run_convert_bytes_back w 28 9 5 ⟨g, o, none⟩ bs.length bs Tryd.underlying28 Tryd.underlying5 Tryd.underlying9 fun j hj => ?_
    obtain ⟨g', o', e, _, hc⟩ := hb j _ (List.getElem?_eq_getElem hj)
    injection e with e
    injection e with e1 e2
    subst e1 e2
    have : (⟨g, o, none⟩ : Addr).add j = ⟨g, o + j, none⟩ := by
      unfold Addr.add
      split
      · rename_i e; simp [e]
      · rfl
    rw [this]
    exact hc

theorem open_any (d : Int) (w : World) (rb : Nat) (b : UInt8) (bs : List UInt8) (h : RdAt w rb (b :: bs)) (hd : 1 ≤ d) :
    Calls Tryd.prog 61 #[.pointer (some ⟨rb, 0, none⟩), .int .i64 d] w (Took rb bs (fun v _ => v = .tuple #[]) w) := by
  have hT := take_any 1 w rb (b :: bs) h (by simp)
  have HT := hide hT
  have b1 : decide (d < 1) = false := decide_eq_false (by omega)
  clear hT h
  go_enter Tryd.func61, Tryd.ntmps61
  go_wp2_with fail
  refine (unhide HT).mono ?_; rintro e w1 ⟨v, rfl, _, hr, hg⟩
  go_wp2_with fail
  exact bodyPost_ret (v := .tuple #[]) (by simp [results, Tryd.results61, go_sem]) rfl ⟨_, rfl, rfl, hr, hg⟩
theorem open_bad (d : Int) (w : World) (rb : Nat) (hd : d < 1) :
    Calls Tryd.prog 61 #[.pointer (some ⟨rb, 0, none⟩), .int .i64 d] w (Dead rb w) := by
  have b1 : decide (d < 1) = true := decide_eq_true hd
  go_enter Tryd.func61, Tryd.ntmps61
  go_wp2_with fail
  exact ⟨rfl, rfl, World.grownBy.refl _ _⟩

theorem closes_nil (w : World) (rb : Nat) (h : RdAt w rb []) : Calls Tryd.prog 62 #[.pointer (some ⟨rb, 0, none⟩)] w (Dead rb w) := by
  have HF := hide (first_nil w rb h)
  go_enter Tryd.func62, Tryd.ntmps62
  go_wp2_with fail
  refine (unhide HF).mono ?_; rintro e w1 ⟨rfl, hg⟩
  go_wp2_with fail
  exact ⟨rfl, rfl, hg⟩
theorem closes_no (w : World) (rb : Nat) (b : UInt8) (bs : List UInt8) (h : RdAt w rb (b :: bs)) (hb : b.toNat ≠ 101) : Calls Tryd.prog 62 #[.pointer (some ⟨rb, 0, none⟩)] w fun e w' => e = .returned (.bool false) ∧ w' = w := by
  have HF := hide (first_cons w rb b bs h)
  have b1 : ((b.toNat : Int) != 101) = true := by simp; omega
  go_enter Tryd.func62, Tryd.ntmps62
  go_wp2_with fail
  refine (unhide HF).mono ?_; rintro e w1 ⟨rfl, rfl⟩
  go_wp2_with fail
  go_ret
  exact ⟨rfl, rfl⟩
theorem closes_yes (w : World) (rb : Nat) (b : UInt8) (bs : List UInt8) (h : RdAt w rb (b :: bs)) (hb : b.toNat = 101) : Calls Tryd.prog 62 #[.pointer (some ⟨rb, 0, none⟩)] w (Took rb bs (fun v _ => v = .bool true) w) := by
  have HF := hide (first_cons w rb b bs h)
  have HT := hide (take_any 1 w rb (b :: bs) h (by simp))
  have b1 : ((b.toNat : Int) != 101) = false := by simp; omega
  clear h
  go_enter Tryd.func62, Tryd.ntmps62
  go_wp2_with fail
  refine (unhide HF).mono ?_; rintro e w1 ⟨rfl, rfl⟩
  go_wp2_with fail
  refine (unhide HT).mono ?_; rintro e w2 ⟨v, rfl, _, hr, hg⟩
  go_wp2_with fail
  go_ret
  exact ⟨_, rfl, rfl, hr, hg⟩
end Go.Proofs.YtclpbjdnollfcaaDoor
