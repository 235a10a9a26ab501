/- Contracts over the program of lexis: Place, and the reference's. -/
import Derived.Test.YtjppjbkndfbnhaaDoorLexI
namespace Go.Proofs.YtjppjbkndfbnhaaDoor
set_option linter.unusedSimpArgs false
set_option linter.unusedVariables false
open Go.RowKit

/-- how many bytes stand behind the last byte 10 -/
def clP (l : List Lx.B) : Nat := (l.reverse.takeWhile (fun c => c != 10)).length
theorem clP_nil : clP [] = 0 := rfl
theorem clP_ten (l : List Lx.B) : clP (l ++ [10]) = 0 := by unfold clP; simp
theorem clP_snoc {l : List Lx.B} {c : Lx.B} (h : c ≠ 10) : clP (l ++ [c]) = clP l + 1 := by
  unfold clP
  rw [List.reverse_append, List.reverse_singleton, List.singleton_append, List.takeWhile_cons_of_pos (by simpa using h)]
  rfl
def lnP (l : List Lx.B) : Nat := l.count 10
theorem lnP_ten (l : List Lx.B) : lnP (l ++ [10]) = lnP l + 1 := by unfold lnP; simp
theorem lnP_snoc {l : List Lx.B} {c : Lx.B} (h : c ≠ 10) : lnP (l ++ [c]) = lnP l := by
  unfold lnP
  rw [List.count_append, List.count_singleton]
  have : (c == 10) = false := by rw [beq_eq_false_iff_ne]; exact h
  rw [this]
  rfl
theorem clP_le (l : List Lx.B) : clP l ≤ l.length := by
  unfold clP
  have := (List.takeWhile_sublist (p := fun c : Lx.B => c != 10) (l := l.reverse)).length_le
  rw [List.length_reverse] at this
  exact this
theorem lnP_le (l : List Lx.B) : lnP l ≤ l.length := List.count_le_length
theorem L_take' (s : ByteArray) (k : Nat) (h : k < s.size) : (L s).take (k + 1) = (L s).take k ++ [s[k]] := by
  rw [List.take_succ_eq_append_getElem (by rw [L_len]; exact h)]
  rfl
theorem Src.take {w : World} {A : Option Addr} {s : ByteArray} (h : Src w A s) (k : Nat) : Src w A (s.extract 0 k) := by
  rcases h with ⟨rfl, h0⟩ | ⟨b, o, rfl, hlt, hc⟩
  · exact .inl ⟨rfl, by rw [ByteArray.size_extract]; omega⟩
  · refine .inr ⟨b, o, rfl, hlt, fun i hi => ?_⟩
    have hi' := hi
    rw [ByteArray.size_extract] at hi'
    rw [hc i (by omega), ByteArray.getElem_extract]
    simp
theorem Src.cell {w : World} {A : Option Addr} {s : ByteArray} (h : Src w A s) (hp : 0 < s.size) : ∃ b o, A = some ⟨b, o, none⟩ ∧ b < w.heap.size ∧ ∀ i (h : i < s.size), w.cell? ⟨b, o + i, none⟩ = some (.int .u8 (s[i].toNat : Int)) := by
  rcases h with ⟨rfl, h0⟩ | ⟨b, o, rfl, hlt, hc⟩
  · omega
  · exact ⟨b, o, rfl, hlt, hc⟩
set_option maxRecDepth 100000 in
set_option maxHeartbeats 4000000 in
theorem lastIdx_any (A : Option Addr) (n c : Nat) (s : ByteArray) (w : World) (hn : s.size = n) (hS : Src w A s) (hl : n ≤ 1000000) :
    Calls Tryd.prog 59 #[.slice A n c, .int .u8 10] w fun e w' => e = .returned (.int .i64 ((n : Int) - 1 - (clP (L s) : Int))) ∧ w' = w := by
  have HS := hide hS; have HN := hide hn
  clear hS hn
  go_enter Tryd.func59, Tryd.ntmps59
  go_wp2_with fail
  go_loop [5] (fun i => ∃ (k : Nat) (j : Int), k ≤ n ∧ j = (k : Int) - 1 ∧ i = .int .i64 j ∧ clP (L s) = clP ((L s).take k) + (n - k)) (fun i => (intOf i + 1).toNat)
  case atStart => exact ⟨n, _, Nat.le_refl _, rfl, rfl, by rw [List.take_of_length_le (by rw [L_len]; exact Nat.le_of_eq (unhide HN)), Nat.sub_self, Nat.add_zero]⟩
  case round =>
    obtain ⟨k, j, hk, hj, rfl, heq⟩ := hrel
    have HE := hide heq
    clear heq
    by_cases h0 : 0 < k
    · obtain ⟨m, rfl⟩ : ∃ m, k = m + 1 := ⟨k - 1, by omega⟩
      obtain rfl : j = (m : Int) := by omega
      have hm : m < s.size := by have := unhide HN; omega
      obtain ⟨b, o, rfl, hlt, hc⟩ := (unhide HS).cell (by omega)
      have hcm := hc m hm
      have hmn : m < n := by omega
      have HT := hide (L_take' s m hm)
      clear hc hj
      by_cases h10 : s[m] = 10
      · have b10 : ((s[m].toNat : Int) == 10) = true := by rw [h10]; rfl
        have hfin : (m : Int) = (n : Int) - 1 - (clP (L s) : Int) := by
          rw [unhide HE, unhide HT, h10, clP_ten]; omega
        have HF := hide hfin
        clear hfin h10
        go_wp2_with fail
        go_ret
        exact ⟨retI (unhide HF), rfl⟩
      · have b10 : ((s[m].toNat : Int) == 10) = false := by
          rw [beq_eq_false_iff_ne]; intro e; exact h10 ((Lx.eq_byte (n := 10) (by decide)).2 (by omega))
        have hnx : clP (L s) = clP ((L s).take m) + (n - m) := by rw [unhide HE, unhide HT, clP_snoc h10]; omega
        have HX := hide hnx
        clear hnx h10
        go_wp2_with fail
        go_round
        case rel => exact ⟨m, _, by omega, rfl, rfl, unhide HX⟩
        case measure => simp [intOf]
    · obtain rfl : k = 0 := by omega
      obtain rfl : j = -1 := by omega
      have hfin : (-1 : Int) = (n : Int) - 1 - (clP (L s) : Int) := by rw [unhide HE, List.take_zero, clP_nil]; omega
      have HF := hide hfin
      clear hfin hj
      go_wp2_with fail
      go_ret
      exact ⟨retI (unhide HF), rfl⟩
theorem lastI_any (A : Option Addr) (n c : Nat) (s : ByteArray) (w : World) (hn : s.size = n) (hS : Src w A s) (hl : n ≤ 1000000) :
    Calls Tryd.prog 38 #[.slice A n c, .int .u8 10] w fun e w' => e = .returned (.int .i64 ((n : Int) - 1 - (clP (L s) : Int))) ∧ w' = w := by
  have HC := hide (lastIdx_any A n c s w hn hS hl)
  clear hS hn
  generalize (n : Int) - 1 - (clP (L s) : Int) = r at HC ⊢
  go_enter Tryd.func38, Tryd.ntmps38
  go_wp2_with fail
  refine (unhide HC).mono ?_; rintro e w' ⟨rfl, rfl⟩
  go_wp2_with fail
  go_ret
  exact ⟨rfl, rfl⟩
theorem bytesOf_L (s : ByteArray) : Lib.bytesOf ((L s).map fun c => (c.toNat : Int)) = L s := by
  unfold Lib.bytesOf
  rw [List.map_map]
  conv => rhs; rw [← List.map_id (L s)]
  refine List.map_congr_left fun c _ => ?_
  simp
theorem count_any (A : Option Addr) (n c g d : Nat) (s : ByteArray) (w : World) (hn : s.size = n) (hS : Src w A s) (hc : A = none → c = 0) (hg : w.cell? ⟨g, 0, none⟩ = some (.int .u8 10)) :
    Calls Tryd.prog 37 #[.slice A n c, .slice (some ⟨g, 0, none⟩) 1 d] w fun e w' => e = .returned (.int .i64 (lnP (L s) : Int)) ∧ w' = w := by
  rcases hS with ⟨rfl, h0⟩ | ⟨b, o, rfl, hlt, hcl⟩
  · obtain rfl := hc rfl
    obtain rfl : n = 0 := by omega
    have e : lnP (L s) = 0 := by rw [List.eq_nil_iff_length_eq_zero.2 (show (L s).length = 0 by rw [L_len]; exact h0)]; rfl
    rw [e]
    exact Tryd.bytes_Count_one_nil g 0 d 10 w hg
  · have h := Tryd.bytes_Count_one_at ⟨b, o, none⟩ n c g 0 d ((L s).map fun c => (c.toNat : Int)) 10 w (by rw [List.length_map, L_len]; exact hn) (fun i hi => by
      have e : (⟨b, o, none⟩ : Addr).add i = ⟨b, o + i, none⟩ := by unfold Addr.add; split <;> simp_all
      rw [e, hcl i (by omega), List.getD_eq_getElem?_getD, List.getElem?_map, List.getElem?_eq_getElem (by rw [L_len]; omega)]
      rfl) hg
    rw [bytesOf_L] at h
    exact h

/-- how Place ends, for a text that is not too long -/
def placeV (S : List Lx.B) (a : Int) : Int × Int × Int := if a < 0 ∨ (S.length : Int) < a then (0, 0, 1) else ((lnP (S.take a.toNat) : Int) + 1, (clP (S.take a.toNat) : Int) + 1, 0)
def PlaceIs (x : Int × Int × Int) (w : World) (e : Ending) (w' : World) : Prop := e = .returned (.tuple #[.int .i64 x.1, .int .i64 x.2.1, .int .i64 x.2.2]) ∧ Below w.heap.size w w'
set_option maxRecDepth 100000 in
set_option maxHeartbeats 4000000 in
theorem place_no (A : Option Addr) (n c : Nat) (a : Int) (w : World) (h : 65536 < n) : Calls Tryd.prog 21 #[.slice A n c, .int .i64 a] w (PlaceIs (0, 0, 2) w) := by
  unfold PlaceIs
  go_enter Tryd.func21, Tryd.ntmps21
  go_wp2_with fail
  go_ret3
  exact ⟨rfl, Below.refl _ _⟩
set_option maxRecDepth 100000 in
set_option maxHeartbeats 4000000 in
theorem place_yes (A : Option Addr) (n c : Nat) (s : ByteArray) (a : Int) (w : World) (hn : s.size = n) (h : n ≤ 65536) (hS : Src w A s) (hc : A = none → c = 0) (hnc : n ≤ c) : Calls Tryd.prog 21 #[.slice A n c, .int .i64 a] w (PlaceIs (placeV (L s) a) w) := by
  unfold PlaceIs placeV
  rw [L_len, hn]
  have hni : (n : Int) ≤ 65536 := by omega
  by_cases h1 : a < 0
  · rw [if_pos (.inl h1)]
    go_enter Tryd.func21, Tryd.ntmps21
    go_wp2_with fail
    go_ret3
    exact ⟨rfl, Below.refl _ _⟩
  by_cases h2 : (n : Int) < a
  · rw [if_pos (.inr h2)]
    have d1 : decide (a < 0) = false := by rw [decide_eq_false_iff_not]; omega
    go_enter Tryd.func21, Tryd.ntmps21
    go_wp2_with fail
    go_ret3
    exact ⟨rfl, Below.refl _ _⟩
  rw [if_neg (fun e => e.elim h1 h2)]
  obtain ⟨m, rfl⟩ : ∃ m : Nat, a = (m : Int) := ⟨a.toNat, by omega⟩
  rw [Int.toNat_natCast]
  have hmn : m ≤ n := by omega
  have hmi : (m : Int) ≤ (n : Int) := by omega
  have hmc : m ≤ c := by omega
  have hm0 : (0 : Int) ≤ (m : Int) := Int.natCast_nonneg _
  have hex : (s.extract 0 m).size = m := by rw [ByteArray.size_extract]; omega
  have hLe : L (s.extract 0 m) = (L s).take m := by rw [L_extract, List.drop_zero]
  have d1 : decide ((m : Int) < 0) = false := by rw [decide_eq_false_iff_not]; omega
  have d2 : decide ((n : Int) < (m : Int)) = false := by rw [decide_eq_false_iff_not]; omega
  have hS1 := fun W (hB : Below w.heap.size w W) => (hS.keep hB).take m
  have hcn := fun W (hB : Below w.heap.size w W) (g d : Nat) (hg : W.cell? ⟨g, 0, none⟩ = some (.int .u8 10)) => count_any A m c g d (s.extract 0 m) W hex (hS1 W hB) hc hg
  have hla := fun W (hB : Below w.heap.size w W) => lastI_any A m c (s.extract 0 m) W hex (hS1 W hB) (by omega)
  rw [hLe] at hcn hla
  have hl1 := lnP_le ((L s).take m)
  have hl2 := clP_le ((L s).take m)
  have hl3 : ((L s).take m).length ≤ m := List.length_take_le _ _
  generalize lnP ((L s).take m) = p at hcn hl1 ⊢
  generalize clP ((L s).take m) = q at hla hl2 ⊢
  have HCN := hide hcn; have HLA := hide hla
  have hp : p ≤ m := by omega
  have hq : q ≤ m := by omega
  clear hcn hla hl1 hl2 hl3 hS1 hS hLe hex hn h1 h2
  go_enter Tryd.func21, Tryd.ntmps21
  go_wp2_with fail
  refine ((unhide HCN) _ ((Below.refl _ _).alloc (Nat.le_refl _) _) _ _ (by go_simp)).mono ?_; rintro e w1 ⟨rfl, rfl⟩
  go_wp2_with fail
  refine ((unhide HLA) _ ((Below.refl _ _).alloc (Nat.le_refl _) _)).mono ?_; rintro e w1 ⟨rfl, rfl⟩
  have hwr : IntKind.i64.wrap ((m : Int) - ((m : Int) - 1 - (q : Int))) = (q : Int) + 1 := by
    rw [show (m : Int) - ((m : Int) - 1 - (q : Int)) = (q : Int) + 1 by omega]
    exact IntWalk.i64_in _ (by omega)
  have hsb : (m : Int) - ((m : Int) - 1 - (q : Int)) = (q : Int) + 1 := by omega
  go_wp2_with fail
  go_ret3
  exact ⟨rfl, (Below.refl _ _).alloc (Nat.le_refl _) _⟩

set_option maxRecDepth 100000 in
set_option maxHeartbeats 4000000 in
theorem rplace_no (A : Option Addr) (n c : Nat) (a : Int) (w : World) (h : 65536 < n) : Calls Tryd.prog 22 #[.slice A n c, .int .i64 a] w (PlaceIs (0, 0, 2) w) := by
  unfold PlaceIs
  go_enter Tryd.func22, Tryd.ntmps22
  go_wp2_with fail
  go_ret3
  exact ⟨rfl, Below.refl _ _⟩
theorem plTuple {a b c d : Int} (h : a = b) (h2 : c = d) : Ending.returned (.tuple #[.int .i64 a, .int .i64 c, .int .i64 0]) = .returned (.tuple #[.int .i64 b, .int .i64 d, .int .i64 0]) := by rw [h, h2]
set_option maxRecDepth 100000 in
set_option maxHeartbeats 4000000 in
theorem rplace_yes (A : Option Addr) (n c : Nat) (s : ByteArray) (a : Int) (w : World) (hn : s.size = n) (h : n ≤ 65536) (hS : Src w A s) : Calls Tryd.prog 22 #[.slice A n c, .int .i64 a] w (PlaceIs (placeV (L s) a) w) := by
  unfold PlaceIs placeV
  rw [L_len, hn]
  have hni : (n : Int) ≤ 65536 := by omega
  by_cases h1 : a < 0
  · rw [if_pos (.inl h1)]
    go_enter Tryd.func22, Tryd.ntmps22
    go_wp2_with fail
    go_ret3
    exact ⟨rfl, Below.refl _ _⟩
  by_cases h2 : (n : Int) < a
  · rw [if_pos (.inr h2)]
    have d1 : decide (a < 0) = false := by rw [decide_eq_false_iff_not]; omega
    go_enter Tryd.func22, Tryd.ntmps22
    go_wp2_with fail
    go_ret3
    exact ⟨rfl, Below.refl _ _⟩
  rw [if_neg (fun e => e.elim h1 h2)]
  obtain ⟨m, rfl⟩ : ∃ m : Nat, a = (m : Int) := ⟨a.toNat, by omega⟩
  rw [Int.toNat_natCast]
  have hmn : m ≤ n := by omega
  have hmi : (m : Int) ≤ (n : Int) := by omega
  have hm0 : (0 : Int) ≤ (m : Int) := Int.natCast_nonneg _
  have d1 : decide ((m : Int) < 0) = false := by rw [decide_eq_false_iff_not]; omega
  have d2 : decide ((n : Int) < (m : Int)) = false := by rw [decide_eq_false_iff_not]; omega
  have HS := hide hS; have HN := hide hn
  clear hS hn h1 h2
  go_enter Tryd.func22, Tryd.ntmps22
  go_wp2_with fail
  go_loop [7, 8, 9] (fun ln cl i => ∃ k : Nat, k ≤ m ∧ i = .int .i64 (k : Int) ∧ ln = .int .i64 ((lnP ((L s).take k) : Int) + 1) ∧ cl = .int .i64 ((clP ((L s).take k) : Int) + 1)) (fun _ _ i => m - (intOf i).toNat)
  case atStart => exact ⟨0, Nat.zero_le _, rfl, rfl, rfl⟩
  case round =>
    obtain ⟨k, hk, rfl, rfl, rfl⟩ := hrel
    have hl1 := lnP_le ((L s).take k)
    have hl2 := clP_le ((L s).take k)
    have hl3 : ((L s).take k).length ≤ k := List.length_take_le _ _
    by_cases hlt : k < m
    · have hks : k < s.size := by have := unhide HN; omega
      obtain ⟨b, o, rfl, hlt', hc⟩ := (unhide HS).cell (by omega)
      have hck := hc k hks
      have HT := hide (L_take' s k hks)
      have hkn : k < n := by omega
      clear hc
      by_cases h10 : s[k] = 10
      · have b10 : ((s[k].toNat : Int) == 10) = true := by rw [h10]; rfl
        have HA := hide (show lnP ((L s).take (k + 1)) = lnP ((L s).take k) + 1 by rw [unhide HT, h10, lnP_ten])
        have HB := hide (show clP ((L s).take (k + 1)) = 0 by rw [unhide HT, h10, clP_ten])
        generalize lnP ((L s).take k) = p at HA hl1
        generalize clP ((L s).take k) = q at hl2
        clear h10
        go_wp2_with fail
        go_round
        case rel => exact ⟨k + 1, by omega, by go_num, by rw [unhide HA]; go_num, by rw [unhide HB]; rfl⟩
        case measure => simp [intOf]; omega
      · have b10 : ((s[k].toNat : Int) == 10) = false := by
          rw [beq_eq_false_iff_ne]; intro e; exact h10 ((Lx.eq_byte (n := 10) (by decide)).2 (by omega))
        have HA := hide (show lnP ((L s).take (k + 1)) = lnP ((L s).take k) by rw [unhide HT, lnP_snoc h10])
        have HB := hide (show clP ((L s).take (k + 1)) = clP ((L s).take k) + 1 by rw [unhide HT, clP_snoc h10])
        generalize lnP ((L s).take k) = p at HA hl1
        generalize clP ((L s).take k) = q at HB hl2
        clear h10
        go_wp2_with fail
        go_round
        case rel => exact ⟨k + 1, by omega, by go_num, by rw [unhide HA], by rw [unhide HB]; go_num⟩
        case measure => simp [intOf]; omega
    · obtain rfl : k = m := by omega
      go_wp2_with fail
      go_ret3
      exact ⟨rfl, Below.refl _ _⟩
end Go.Proofs.YtjppjbkndfbnhaaDoor
