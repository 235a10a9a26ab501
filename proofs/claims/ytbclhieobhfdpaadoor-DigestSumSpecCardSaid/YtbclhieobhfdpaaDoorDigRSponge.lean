/- The reference takes a padded text block by block: pure. -/
import Derived.Test.YtbclhieobhfdpaaDoorDigRLane
namespace Go.Proofs.YtbclhieobhfdpaaDoor
set_option linter.unusedSimpArgs false
set_option linter.unusedVariables false

/-- the lanes after n blocks of p -/
def blkF (f : Nat → Int) (p : List Int) : Nat → (Nat → Int)
  | 0 => f
  | n + 1 => absF (blkF f p n) ((p.drop (136 * n)).take 136)
theorem runS_blk (f : Nat → Int) (p : List Int) : ∀ n, 136 * n ≤ p.length → runS (f, []) (p.take (136 * n)) = (blkF f p n, [])
  | 0, _ => rfl
  | n + 1, h => by
    have e : p.take (136 * (n + 1)) = p.take (136 * n) ++ (p.drop (136 * n)).take 136 := by
      rw [show 136 * (n + 1) = 136 * n + 136 by omega, List.take_add]
    have hl : ((p.drop (136 * n)).take 136).length = 136 := by rw [List.length_take, List.length_drop]; omega
    rw [e, runS_append, runS_blk f p n (by omega), runS_chunk _ _ (by intro h0; rw [h0] at hl; simp at hl) (by rw [hl]; simp)]
    rw [if_pos (by rw [hl]; rfl)]
    simp [blkF]
theorem blkF_congr (f : Nat → Int) (p q : List Int) (n : Nat) (h : p.take (136 * n) = q.take (136 * n)) (hp : 136 * n ≤ p.length) (hq : 136 * n ≤ q.length) : blkF f p n = blkF f q n := by
  have a := runS_blk f p n hp
  have b := runS_blk f q n hq
  rw [h, b] at a
  injection a with a1 _
  exact a1.symm
/-- the padded text -/
def padR (l : List Int) : List Int := l.take (136 * (l.length / 136)) ++ padB (l.drop (136 * (l.length / 136)))
theorem padB_length (q : List Int) (h : q.length < 136) : (padB q).length = 136 := by
  unfold padB
  rw [List.length_set, List.length_append, List.length_cons, List.length_replicate]
  omega
theorem padR_length (l : List Int) : (padR l).length = 136 * (l.length / 136 + 1) := by
  unfold padR
  rw [List.length_append, padB_length _ (by rw [List.length_drop]; omega), List.length_take]
  omega
theorem hashF_blk (l : List Int) : hashF l = outF (blkF (fun _ => 0) (padR l) (l.length / 136 + 1)) := by
  obtain ⟨m, hm⟩ : ∃ m, m = l.length / 136 := ⟨_, rfl⟩
  have h1 : l = l.take (136 * m) ++ l.drop (136 * m) := (List.take_append_drop _ _).symm
  have hd : (l.drop (136 * m)).length < 136 := by rw [List.length_drop]; omega
  have hr : runS (fun _ => 0, []) l = (blkF (fun _ => 0) l m, l.drop (136 * m)) := by
    conv => lhs; rw [h1]
    rw [runS_append, runS_blk _ _ _ (by omega)]
    by_cases h0 : l.drop (136 * m) = []
    · rw [h0]; rfl
    · rw [runS_chunk _ _ h0 (by simp only [List.length_nil]; omega), if_neg (by simp only [List.length_nil]; omega)]
      rfl
  unfold hashF
  rw [hr, ← hm]
  show outF (absF (blkF (fun _ => 0) l m) (padB (l.drop (136 * m)))) = outF (absF (blkF (fun _ => 0) (padR l) m) (((padR l).drop (136 * m)).take 136))
  have ht : (l.take (136 * m)).length = 136 * m := by rw [List.length_take]; omega
  have e1 : (padR l).take (136 * m) = l.take (136 * m) := by
    unfold padR
    rw [← hm, List.take_append_of_le_length (by omega), List.take_take, Nat.min_self]
  have e2 : (padR l).drop (136 * m) = padB (l.drop (136 * m)) := by
    unfold padR
    rw [← hm, List.drop_append_of_le_length (by omega), List.drop_eq_nil_of_le (by omega), List.nil_append]
  rw [e2, List.take_of_length_le (by rw [padB_length _ hd]; exact Nat.le_refl _), blkF_congr _ (padR l) l m e1 (by rw [padR_length]; omega) (by omega)]
/-- the padding as the reference lays it: a 6, zeros up to a whole block, and the last byte with 128 -/
theorem padR_eq (l : List Int) (z : Nat) (hz : (l.length + 1 + z) % 136 = 0) (hz2 : z < 136) :
    padR l = (l ++ 6 :: List.replicate z 0).set (l.length + z) (bits .xor .u8 ((l ++ 6 :: List.replicate z 0).getD (l.length + z) 0) 128) := by
  obtain ⟨m, hm⟩ : ∃ m, m = l.length / 136 := ⟨_, rfl⟩
  have ht : (l.take (136 * m)).length = 136 * m := by rw [List.length_take]; omega
  have hd : (l.drop (136 * m)).length = l.length - 136 * m := List.length_drop
  have hz3 : 135 - (l.drop (136 * m)).length = z := by omega
  have e : l ++ 6 :: List.replicate z 0 = l.take (136 * m) ++ (l.drop (136 * m) ++ 6 :: List.replicate z (0 : Int)) := by
    rw [← List.append_assoc, List.take_append_drop]
  have ei : l.length + z = 136 * m + 135 := by omega
  unfold padR padB
  rw [← hm, hz3, e, ei]
  conv => rhs; rw [List.set_append_right _ _ (by omega), ht, show 136 * m + 135 - 136 * m = 135 by omega]
  congr 3
  rw [List.getD_eq_getElem?_getD, List.getD_eq_getElem?_getD]
  conv => rhs; rw [List.getElem?_append_right (by omega), ht, show 136 * m + 135 - 136 * m = 135 by omega]
theorem padR_byt (l : List Int) (h : ∀ c ∈ l, 0 ≤ c ∧ c < 256) : ∀ c ∈ padR l, 0 ≤ c ∧ c < 256 := by
  intro c hc
  unfold padR at hc
  rcases List.mem_append.1 hc with hc | hc
  · exact h c (List.mem_of_mem_take hc)
  · unfold padB at hc
    rcases List.mem_or_eq_of_mem_set hc with hc | rfl
    · rcases List.mem_append.1 hc with hc | hc
      · exact h c (List.mem_of_mem_drop hc)
      · rcases List.mem_cons.1 hc with rfl | hc
        · decide
        · rw [List.eq_of_mem_replicate hc]; decide
    · show 0 ≤ IntKind.u8.wrap _ ∧ IntKind.u8.wrap _ < 256
      rw [IntKind.wrap_u8]
      omega
end Go.Proofs.YtbclhieobhfdpaaDoor
