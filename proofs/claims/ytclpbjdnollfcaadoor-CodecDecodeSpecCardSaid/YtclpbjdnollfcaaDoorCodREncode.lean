/- A contract over the codec's program, for every value that few takes: the reference's Encode. -/
import Derived.Test.YtclpbjdnollfcaaDoorCodRefEnc
import Derived.Test.YtclpbjdnollfcaaDoorCodGlue
namespace Go.Proofs.YtclpbjdnollfcaaDoor
set_option linter.unusedSimpArgs false
set_option linter.unusedVariables false
open Go.RowKit

set_option maxRecDepth 100000 in
set_option maxHeartbeats 2000000 in
theorem rencode_any (V : Va) (hn : V.nest ≤ 1000) (hlim : V.enc.length ≤ 100000000) (v : Value) (w : World) (h : VAt w V v) : Calls Tryd.prog 13 #[v] w (EncodedB w V) := by
  obtain ⟨k, n, s, A, m, c, A', m', c', rfl⟩ := h.form
  have HC := hide (fun (W : World) (hW : Below w.heap.size w W) => rcheck_any V hn _ W (h.later hW))
  have HE := hide (fun (hk : chkE V = 0) (W : World) (hW : Below w.heap.size w W) => renc_any V (chk_split hk).1 hlim _ W (h.later hW))
  have HV := hide h
  clear h
  have HB0 := hide ((Below.refl w.heap.size w).alloc (Nat.le_refl _) (.cells #[.int .i64 k, .int .i64 n, .string s, .slice A m c, .slice A' m' c'] 25))
  go_enter Tryd.func13, Tryd.ntmps13
  go_wp2_with fail
  refine ((unhide HC) _ (unhide HB0)).mono ?_; rintro e w1 ⟨rfl, hb1⟩
  have hX1 := (hb1.block w.heap.size (by simp)).trans (heap_alloc_new w _)
  have HB1 := hide (thenB (unhide HB0) hb1)
  have hz1 : w.heap.size < w1.heap.size := by have := hb1.size; simp at this; omega
  have f0 := (boxAt hX1 0).1; have f1 := (boxAt hX1 1).1; have f2 := (boxAt hX1 2).1; have f3 := (boxAt hX1 3).1; have f4 := (boxAt hX1 4).1
  simp at f0 f1 f2 f3 f4
  clear hb1 hX1 HB0 HC
  by_cases hc : chkE V = 0
  · have HEN := hide ((unhide HE) hc w1 (unhide HB1))
    have HK := hide (encF_ok hc)
    have HK2 := hide hc
    rw [hc]
    clear HE hc
    go_wp2_with fail
    refine (unhide HEN).mono ?_; rintro e w2 ⟨v2, rfl, ho2, hb2⟩
    have HO := hide (ho2.at)
    have HB2 := hide (thenB (unhide HB1) hb2)
    clear ho2 hb2
    go_wp2_with fail
    go_ret2
    exact ⟨v2, by rw [unhide HK2]; rfl, by rw [unhide HK]; exact unhide HO, unhide HB2⟩
  · have HK := hide (show encF V = [] by unfold encF; rw [if_neg hc])
    have hd : (chkE V != 0) = true := by simpa using hc
    generalize hq : chkE V = ck at hd ⊢
    have HQ := hide hq
    clear hq
    clear HE hc
    go_wp2_with fail
    go_ret2
    exact ⟨.slice none 0 0, by rw [unhide HQ]; rfl, by rw [unhide HK]; exact BAt.nil _, unhide HB1⟩
end Go.Proofs.YtclpbjdnollfcaaDoor
