/- Contracts over the calendar's program, each for every input under its hypotheses: In; rows of intervals that a call owns. -/
import Derived.Test.YtbfpbmijmiljlaaDoorCalWalkF
namespace Go.Proofs.YtbfpbmijmiljlaaDoor
set_option linter.unusedSimpArgs false
set_option linter.unusedVariables false
open Go.RowKit

theorem index_zero (A : Option Addr) (c : Nat) (fv : Value) (w : World) :
    Calls Tryd.prog 49 #[.slice A 0 c, fv] w fun e w' => e = .returned (.int .i64 (-1)) ∧ w' = w := by
  go_enter Tryd.func49, Tryd.ntmps49
  go_wp2
  go_loop [5, 8] (fun _ i => i = .int .i64 0) (fun _ _ => 0)
  case atStart => rfl
  case round =>
    subst hrel
    go_wp2
    go_ret
    exact ⟨rfl, rfl⟩

theorem index_any (A : Option Addr) (c : Nat) (v : Int) (B : Nat) (l : List CalI.Iv) (w : World) (h : IvAt w A l) (hn : l.length ≤ 1000000) (hcv : w.cell? ⟨B, 0, none⟩ = some (.int .i64 v)) :
    Calls Tryd.prog 49 #[.slice A l.length c, .func (.func 43) #[] #[.pointer (some ⟨B, 0, none⟩)]] w
      fun e w' => (∃ r : Int, e = .returned (.int .i64 r) ∧ (inB l v = true ↔ 0 ≤ r) ∧ -1 ≤ r) ∧ Below w.heap.size w w' := by
  by_cases h0 : 0 < l.length
  · obtain ⟨b, off, rfl, hb, hr⟩ := h.row h0
    exact index_rows b off c l.length v B l w rfl hn hcv hr (fun _ => hb)
  · have e : l = [] := List.length_eq_zero_iff.1 (by omega)
    subst e
    exact (index_zero A c _ w).mono fun e w' ⟨he, hw⟩ => ⟨⟨-1, he, by simp [inB], by omega⟩, hw ▸ Below.refl _ _⟩

theorem contains_any (A : Option Addr) (c : Nat) (v : Int) (B : Nat) (l : List CalI.Iv) (w : World) (h : IvAt w A l) (hn : l.length ≤ 1000000) (hcv : w.cell? ⟨B, 0, none⟩ = some (.int .i64 v)) :
    Calls Tryd.prog 42 #[.slice A l.length c, .func (.func 43) #[] #[.pointer (some ⟨B, 0, none⟩)]] w
      fun e w' => e = .returned (.bool (inB l v)) ∧ Below w.heap.size w w' := by
  have HI := hide (index_any A c v B l w h hn hcv)
  clear h hn hcv
  generalize l.length = n at HI ⊢
  go_enter Tryd.func42, Tryd.ntmps42
  go_wp2_with (go_at_call 49; refine (unhide HI).mono ?_; rintro e w' ⟨⟨r, rfl, hr, hr1⟩, hb⟩; have HR := Lib.hid hr; clear hr)
  go_ret
  refine ⟨?_, hb⟩
  have : inB l v = decide (0 ≤ r) := by
    rw [Bool.eq_iff_iff, HR.out]
    simp
  rw [this]
  rfl

theorem in_any (A : Option Addr) (c : Nat) (v : Int) (l : List CalI.Iv) (w : World) (h : IvAt w A l) (hn : l.length ≤ 1000000) :
    Calls Tryd.prog 26 #[.int .i64 v, .slice A l.length c] w
      fun e w' => e = .returned (.bool (inB l v)) ∧ Below w.heap.size w w' := by
  have HC := hide (contains_any A c v w.heap.size l (w.alloc (.cells #[.int .i64 v] 3)) (h.below (by go_grown)) hn (by simp))
  clear h hn
  generalize l.length = n at HC ⊢
  go_enter Tryd.func26, Tryd.ntmps26
  go_wp2_with (go_at_call 42; refine (unhide HC).mono ?_; rintro e w' ⟨rfl, hb⟩)
  go_ret
  exact ⟨rfl, (show Below w.heap.size w (w.alloc _) from by go_grown).trans (hb.mono (by simp))⟩

/- ---- what the call owns ---- -/
def flat (l : List CalI.Iv) : List Value := l.flatMap fun x => [.int .i64 x.1, .int .i64 x.2]
theorem flat_length (l : List CalI.Iv) : (flat l).length = l.length * 2 := by
  induction l with
  | nil => rfl
  | cons a r ih => simp [flat] at ih ⊢; omega
theorem flat_append (a b : List CalI.Iv) : flat (a ++ b) = flat a ++ flat b := by simp [flat]
theorem flat_get (l : List CalI.Iv) (k : Nat) (x : CalI.Iv) (h : l[k]? = some x) : (flat l)[k * 2]? = some (.int .i64 x.1) ∧ (flat l)[k * 2 + 1]? = some (.int .i64 x.2) := by
  induction l generalizing k with
  | nil => simp at h
  | cons a r ih =>
    cases k with
    | zero => simp at h; subst h; simp [flat]
    | succ k =>
      have := ih k (by simpa using h)
      have e1 : (k + 1) * 2 = k * 2 + 1 + 1 := by omega
      simp only [flat, List.flatMap_cons, List.cons_append, List.nil_append] at this ⊢
      rw [e1]
      simpa using this

/-- a row of the call's own that holds l -/
def OwnIv (w : World) (B : Nat) (v : Value) (l : List CalI.Iv) : Prop := w.ownsRow B 34 2 v l.length (flat l)
theorem OwnIv.form {w : World} {B : Nat} {v : Value} {l : List CalI.Iv} (h : OwnIv w B v l) : ∃ A c, v = .slice A l.length c ∧ IvAt w A l ∧ l.length ≤ c := by
  rcases h.2 with ⟨rfl, h0⟩ | ⟨g, cap, cur, rfl, hb, hg, hn, hm, hs, ht⟩
  · have e : l = [] := List.length_eq_zero_iff.1 h0
    subst e
    exact ⟨none, 0, rfl, IvAt.nil _ _, Nat.le_refl _⟩
  · refine ⟨_, cap, rfl, fun k hk => ⟨g, 0, rfl, ?_, ?_⟩, hn⟩
    · have := (flat_get l k _ (List.getElem?_eq_getElem hk)).1
      rw [← ht, List.getElem?_take] at this
      simp only [World.cell?, hg]
      split at this
      · simpa using this
      · cases this
    · have := (flat_get l k _ (List.getElem?_eq_getElem hk)).2
      rw [← ht, List.getElem?_take] at this
      simp only [World.cell?, hg]
      split at this
      · simpa using this
      · cases this

end Go.Proofs.YtbfpbmijmiljlaaDoor
