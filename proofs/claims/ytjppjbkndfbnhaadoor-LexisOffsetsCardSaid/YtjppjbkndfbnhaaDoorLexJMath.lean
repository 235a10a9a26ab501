/- Plain mathematics of joined tokens. -/
import Derived.Test.YtjppjbkndfbnhaaDoorLexStep
namespace Lx
set_option linter.unusedSimpArgs false
set_option linter.unusedVariables false

def esc1 (c : B) : List B := if c = 34 ∨ c = 92 then [92, c] else if c = 10 then [92, 110] else [c]
def esc (l : List B) : List B := l.flatMap esc1
def quoteT (l : List B) : List B := 34 :: (esc l ++ [34])
def outT (t : Tk) : List B := if t.k = 3 then quoteT t.t.data.toList else t.t.data.toList
def fitP (t : Tk) : Bool := if t.k = 1 then wordP t.t.data.toList else if t.k = 2 then intP t.t.data.toList else if t.k = 3 then cntP t.t.data.toList else if t.k = 4 then sgnP t.t.data.toList else false
/-- the texts with a space between each two -/
def joinT : List Tk → List B
  | [] => []
  | t :: r => 32 :: (outT t ++ joinT r)
def joinL : List Tk → List B
  | [] => []
  | t :: r => outT t ++ joinT r
theorem joinT_append (a b : List Tk) : joinT (a ++ b) = joinT a ++ joinT b := by
  induction a with
  | nil => rfl
  | cons t r ih => simp [joinT, ih]
theorem joinL_snoc (l : List Tk) (t : Tk) : joinL (l ++ [t]) = joinL l ++ ((if l = [] then [] else [32]) ++ outT t) := by
  cases l with
  | nil => simp [joinL, joinT]
  | cons x r => simp [joinL, joinT_append, joinT]
def endP (t : Tk) : Bool := t.k == 5 && t.t.size == 0
def joinR (l : List Tk) : Option (List B) := match l.getLast? with
  | none => none
  | some t => if endP t = true ∧ l.dropLast.all fitP = true then some (joinL l.dropLast) else none
def wgt : List Tk → Nat
  | [] => 0
  | t :: r => 1 + t.t.size + wgt r
theorem esc_len (l : List B) : (esc l).length ≤ 2 * l.length := by
  induction l with
  | nil => exact Nat.le_refl _
  | cons c r ih =>
    have e : esc (c :: r) = esc1 c ++ esc r := by simp [esc]
    rw [e, List.length_append, List.length_cons]
    have : (esc1 c).length ≤ 2 := by unfold esc1; split <;> (try split) <;> simp
    omega
theorem outT_len (t : Tk) : (outT t).length ≤ 2 * t.t.size + 2 := by
  have e : t.t.data.toList.length = t.t.size := by simp
  unfold outT
  split
  · unfold quoteT
    have := esc_len t.t.data.toList
    simp only [List.length_cons, List.length_append, List.length_nil]
    omega
  · omega
theorem joinT_len (l : List Tk) : (joinT l).length ≤ 3 * wgt l := by
  induction l with
  | nil => exact Nat.le_refl _
  | cons t r ih =>
    have := outT_len t
    simp only [joinT, wgt, List.length_cons, List.length_append]
    omega
theorem joinL_len (l : List Tk) : (joinL l).length ≤ 3 * wgt l := by
  cases l with
  | nil => exact Nat.le_refl _
  | cons t r =>
    have := outT_len t
    have := joinT_len r
    simp only [joinL, wgt, List.length_append]
    omega
theorem wgt_append (a b : List Tk) : wgt (a ++ b) = wgt a + wgt b := by
  induction a with
  | nil => simp [wgt]
  | cons t r ih => simp only [List.cons_append, wgt, ih]; omega
theorem wgt_take (l : List Tk) (k : Nat) : wgt (l.take k) ≤ wgt l := by
  have := congrArg wgt (List.take_append_drop k l)
  rw [wgt_append] at this
  omega
theorem wgt_len (l : List Tk) : l.length ≤ wgt l := by
  induction l with
  | nil => exact Nat.le_refl _
  | cons t r ih => simp only [List.length_cons, wgt]; omega
theorem wgt_mem {l : List Tk} {t : Tk} (h : t ∈ l) : t.t.size ≤ wgt l := by
  induction l with
  | nil => cases h
  | cons x r ih =>
    rcases List.mem_cons.1 h with rfl | h
    · simp only [wgt]; omega
    · have := ih h; simp only [wgt]; omega
theorem esc_snoc (l : List B) (c : B) : esc (l ++ [c]) = esc l ++ esc1 c := by simp [esc]
end Lx
