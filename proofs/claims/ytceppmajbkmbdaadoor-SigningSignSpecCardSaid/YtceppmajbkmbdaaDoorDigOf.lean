/- Contracts over the digest's laws: the list of digests that bytes determine. -/
import Derived.Test.YtceppmajbkmbdaaDoorDigSane
import Derived.Test.YtceppmajbkmbdaaDoorDigApp
namespace Go.Proofs.YtceppmajbkmbdaaDoor
set_option linter.unusedSimpArgs false
set_option linter.unusedVariables false
open Go.RowKit

def digOf (x y : Int) : List Int := x :: y :: List.replicate 30 0
def nthD (l : List Int) (k : Nat) : List Int := digOf (l.getD k 0 % 4) ((k / 8 : Nat) : Int)
def dsK (l : List Int) (k : Nat) : List (List Int) := (List.range k).map (nthD l)
def dsP (l : List Int) : List (List Int) := dsK l (min l.length 24)
theorem dsK_length (l : List Int) (k : Nat) : (dsK l k).length = k := by simp [dsK]
theorem dsP_length (l : List Int) : (dsP l).length = min l.length 24 := dsK_length _ _
theorem dsK_succ (l : List Int) (k : Nat) : dsK l (k + 1) = dsK l k ++ [nthD l k] := by simp [dsK, List.range_succ]
theorem dg_digOf {x y : Int} (hx : Byt x) (hy : Byt y) : Dg (digOf x y) := ⟨rfl, fun c hc => by
  rcases List.mem_cons.1 hc with rfl | hc
  · exact hx
  rcases List.mem_cons.1 hc with rfl | hc
  · exact hy
  · rw [List.eq_of_mem_replicate hc]; exact ⟨by decide, by decide⟩⟩
theorem dg_nth (l : List Int) (k : Nat) (hk : k < 24) : Dg (nthD l k) := dg_digOf ⟨by omega, by omega⟩ ⟨by omega, by omega⟩
theorem dg_dsK (l : List Int) (k : Nat) (hk : k ≤ 24) : ∀ d ∈ dsK l k, Dg d := fun d hd => by
  obtain ⟨i, hi, rfl⟩ := List.mem_map.1 hd
  exact dg_nth l i (by have := List.mem_range.1 hi; omega)
theorem dg_dsP (l : List Int) : ∀ d ∈ dsP l, Dg d := dg_dsK l _ (Nat.min_le_right _ _)
theorem built_dig (x y : Int) : Tryd.prog.built 24 [(0, .int .u8 x), (1, .int .u8 y)] = some ((digOf x y).map (Value.int .u8)).toArray := by kernel_rfl
theorem build_dig (x y : Int) (w : World) : (Instr.build 24 #[(0, .int .u8 x), (1, .int .u8 y)]).run Tryd.prog w = .ok (dv (digOf x y)) w := run_build w _ _ _ (built_dig x y)

set_option maxRecDepth 100000 in
set_option maxHeartbeats 1000000 in
theorem of_any (A : Option Addr) (c : Nat) (l : List Int) (w : World) (hA : Bt w A l) (hc : l.length ≤ c) (h63 : l.length ≤ 140737488351232) :
    Calls Tryd.prog 14 #[.slice A l.length c] w fun x w' => (∃ v, x = .returned v ∧ OwnD w' w.heap.size v (dsP l)) ∧ Below w.heap.size w w' := by
  obtain ⟨n, hnl⟩ : ∃ n, n = l.length := ⟨_, rfl⟩
  obtain ⟨q, hq⟩ : ∃ q, q = min n 24 := ⟨_, rfl⟩
  have HA := hide hA
  have HN : Hid (n = l.length ∧ n ≤ c ∧ n ≤ 140737488351232 ∧ q = min n 24) := ⟨hnl, by omega, by omega, hq⟩
  rw [← hnl]
  clear hA hc h63 hnl hq
  go_enter Tryd.func14, Tryd.ntmps14
  go_upto_region 2 with fail
  generalize hX : w.alloc _ = W1
  have hB1 : Below w.heap.size w W1 := hX ▸ (Below.refl _ _).alloc (Nat.le_refl _) _
  have hown : OwnD W1 w.heap.size (.slice (some ⟨w.heap.size, 0, none⟩) 0 0) [] := hX ▸ World.ownsRow_lit w #[] 0 (Nat.le_refl _) (Nat.zero_le _) rfl
  have HB1 := hide hB1
  have HO1 := hide hown
  clear hX hB1 hown
  go_wp2_with fail
  go_loopg [3, 4] q (fun g y3 y4 wx => ∃ (k : Nat) (v : Value), y3 = v ∧ y4 = .int .i64 (k : Int) ∧ k + g = q ∧ OwnD wx w.heap.size v (dsK l k) ∧ Below w.heap.size w wx)
  case atStart => exact ⟨0, _, rfl, rfl, by omega, by simpa [dsK] using unhide HO1, unhide HB1⟩
  case round =>
    obtain ⟨k, v, rfl, rfl, hkg, hown, hbel⟩ := hrel
    have HOW := hide hown
    have HBE := hide hbel
    have HKG : Hid (k + gk = q) := hkg
    clear hown hbel hkg
    by_cases hkn : k < n
    · by_cases hk24 : k < 24
      · obtain ⟨g, rfl⟩ : ∃ g, gk = g + 1 := ⟨gk - 1, by have := unhide HKG; have := unhide HN; omega⟩
        have i1 : (k : Int) < (n : Int) := by omega
        have i2 : (k : Int) < 24 := by omega
        have i3 : (0 : Int) ≤ (k : Int) := Int.natCast_nonneg _
        have hne : l ≠ [] := fun e => by have := unhide HN; rw [e] at this; simp at this; omega
        obtain ⟨b, o, rfl, hcell⟩ := ((unhide HA).keep (unhide HBE)).at_ hne
        have hck := hcell k (by have := unhide HN; omega)
        obtain ⟨x, hx⟩ : ∃ x, x = l.getD k 0 := ⟨_, rfl⟩
        rw [← hx] at hck
        have hbx : Byt x := by
          rw [hx, List.getD_eq_getElem?_getD, List.getElem?_eq_getElem (by have := unhide HN; omega)]
          exact (unhide HA).byt _ (List.getElem_mem _)
        have wk : IntKind.i64.wrap ((k : Int) + 1) = ((k + 1 : Nat) : Int) := (IntWalk.i64_in _ (by omega)).trans (by omega)
        have HX : Hid (x = l.getD k 0 ∧ Byt x ∧ k < 24) := ⟨hx, hbx, hk24⟩
        clear hne hcell hx hbx hkn hk24
        go_upto_region 5 with fail
        refine wp_region_lit ?_
        refine wpList_plain rfl fun Kt hKt => ?_
        go_simp
        refine hKt _ _ ?_
        clear hKt Kt
        refine wpList_plain rfl fun Kt hKt => ?_
        go_simp
        refine hKt _ _ ?_
        clear hKt Kt
        refine wpList_plain rfl fun Kt hKt => ?_
        go_simp
        refine hKt _ _ ?_
        clear hKt Kt
        refine wpList_plain rfl fun Kt hKt => ?_
        go_simp
        refine hKt _ _ ?_
        clear hKt Kt
        refine wpList_plain rfl fun Kt hKt => ?_
        go_simp
        refine hKt _ _ ?_
        clear hKt Kt
        refine wpList_plain rfl fun Kt hKt => ?_
        go_simp
        refine hKt _ _ ?_
        clear hKt Kt
        refine wpList_plain rfl fun Kt hKt => ?_
        go_simp
        refine hKt _ _ ?_
        clear hKt Kt
        refine wpList_plain rfl fun Kt hKt => ?_
        go_simp
        refine hKt _ _ ?_
        clear hKt Kt
        refine wpList_plain rfl fun Kt hKt => ?_
        go_simp
        refine hKt _ _ ?_
        clear hKt Kt
        obtain ⟨D, hD⟩ : ∃ D, D = nthD l k := ⟨_, rfl⟩
        have hgD : Dg D := hD ▸ dg_nth l k (unhide HX).2.2
        obtain ⟨cd, hcd⟩ : ∃ cs, cs = (D.map (Value.int .u8)).toArray := ⟨_, rfl⟩
        have hsd : cd.size = 32 := by rw [hcd]; simpa using hgD.len
        have e1 : x.tmod 4 = l.getD k 0 % 4 := by rw [← (unhide HX).1]; exact Int.tmod_eq_emod_of_nonneg (unhide HX).2.1.1
        have e2 : IntKind.u8.wrap (IntKind.i64.wrap ((k : Int) / 8)) = ((k / 8 : Nat) : Int) := by
          have h24 := (unhide HX).2.2
          rw [IntWalk.i64_in _ (by omega), IntKind.wrap_u8]
          omega
        refine wpList_build2 rfl 24 0 1 (.tmp 21) (.tmp 24) rfl (.int .u8 (l.getD k 0 % 4)) (.int .u8 ((k / 8 : Nat) : Int)) (.agg cd) (show Value.int .u8 (x.tmod 4) = _ by rw [e1]) (show Value.int .u8 (IntKind.u8.wrap (IntKind.i64.wrap ((k : Int) / 8))) = _ by rw [e2]) (by rw [hcd, hD]; exact build_dig _ _ _) ?_
        have HD := hide hD
        have HGD := hide hgD
        have HCD := hide hcd
        clear e1 e2 hD hgD hcd hck i1 i2 i3
        refine wpList_plain rfl fun Kt hKt => ?_
        go_simp
        refine hKt _ _ ?_
        clear hKt Kt
        rw [overwritten hsd (by rfl)]
        generalize hY : wr.alloc _ = Y1
        have hBY := hide (hY ▸ (Below.refl _ _).alloc (Nat.le_refl _) _ : Below wr.heap.size wr Y1)
        have hoY := hide (boxed wr Y1 D _ (by rw [← hY, unhide HCD]; rfl) : ByAt Y1 wr.heap.size 24 D)
        clear hY
        have hB2 := thenB (unhide HBE) (unhide hBY)
        have hO2 := (unhide HOW).later (unhide hBY)
        obtain ⟨v3, V3, hr3, hown3, hg3⟩ := run_append_D hO2 26 wr.heap.size 1 D (unhide HGD) (unhide hoY) (by rw [dsK_length]; have := (unhide HX).2.2; omega) hB2.size
        have hS3 := grown_below hB2 hg3 (fun k hk => (hO2.lt k hk).1)
        have HS3 := hide hS3
        have HO3 := hide hown3
        refine wpList_plain rfl fun K hK => ?_
        refine wp_append (.tmp 16) (.tmp 26) 26 rfl _ _ v3 V3 rfl rfl hr3 ?_
        refine hK _ _ ?_
        clear hK K hB2 hO2 hr3 hown3 hg3 hS3 hBY hoY
        try simp only [List.getElem_toArray, List.getElem_cons_zero, List.getElem_cons_succ, Act.put, List.setIfInBounds_toArray, List.set_cons_zero, List.set_cons_succ]
        go_wp2_with fail
        go_roundg g
        case measure => omega
        case rel => exact ⟨k + 1, v3, rfl, rfl, by have := unhide HKG; omega, by rw [dsK_succ, ← unhide HD]; exact unhide HO3, unhide HS3⟩
      · have i1 : (k : Int) < (n : Int) := by omega
        have i2 : ¬ (k : Int) < 24 := by omega
        have hd : dsK l k = dsP l := by have h1 := unhide HN; have h2 := unhide HKG; unfold dsP; rw [← h1.1, ← h1.2.2.2]; congr 1; omega
        have HD := hide hd
        clear hd hkn hk24
        go_wp2_with fail
        go_ret
        exact ⟨⟨_, rfl, by rw [← unhide HD]; exact unhide HOW⟩, unhide HBE⟩
    · have i1 : ¬ (k : Int) < (n : Int) := by omega
      have hd : dsK l k = dsP l := by have h1 := unhide HN; have h2 := unhide HKG; unfold dsP; rw [← h1.1, ← h1.2.2.2]; congr 1; omega
      have HD := hide hd
      clear hd hkn
      go_wp2_with fail
      go_ret
      exact ⟨⟨_, rfl, by rw [← unhide HD]; exact unhide HOW⟩, unhide HBE⟩
end Go.Proofs.YtceppmajbkmbdaaDoor
