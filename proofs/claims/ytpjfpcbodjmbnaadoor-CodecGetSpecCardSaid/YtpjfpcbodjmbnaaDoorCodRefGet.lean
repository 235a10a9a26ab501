/- Contracts over the codec's program, each for every value: the reference's Get. -/
import Derived.Test.YtpjfpcbodjmbnaaDoorCodRefSame
import Derived.Test.YtpjfpcbodjmbnaaDoorCodKeysMath
namespace Go.Proofs.YtpjfpcbodjmbnaaDoor
set_option linter.unusedSimpArgs false
set_option linter.unusedVariables false
open Go.RowKit

set_option maxHeartbeats 4000000 in
theorem rget_kind (k n : Int) (s : ByteArray) (A : Option Addr) (m c : Nat) (A' : Option Addr) (m' c' : Nat) (x : ByteArray) (w : World) (hk : k ≠ 4) :
    Calls Tryd.prog 20 #[vaV k n s A m c A' m' c', .string x] w (GotIs none w) := by
  have hb : (k != 4) = true := by simpa using hk
  go_enter Tryd.func20, Tryd.ntmps20
  go_wp2_with fail
  exact bodyPost_ret (v := .tuple #[zeroV, .bool false]) (by simp [results, Tryd.results20, go_sem]) rfl ⟨_, rfl, VAt.zero _, by go_grown⟩

set_option maxRecDepth 100000 in
set_option maxHeartbeats 8000000 in
theorem rget_dict (n : Int) (s : ByteArray) (A : Option Addr) (m c : Nat) (A' : Option Addr) (m' c' : Nat) (l : List Va) (ks : List ByteArray) (x : ByteArray) (w : World) (hm : m ≤ 140737488351232) (hm' : m' ≤ 140737488351232)
    (HL : Hid (l.length = m ∧ ks.length = m')) (HE : Hid (ElsAt w A l)) (HS : Hid (StrsAt w A' ks)) (g : Option Va) (HG : Hid (getF (.mk 4 n s l ks) x = g)) :
    Calls Tryd.prog 20 #[vaV 4 n s A m c A' m' c', .string x] w (GotIs g w) := by
  go_enter Tryd.func20, Tryd.ntmps20
  go_wp2_with fail
  go_loop [6] (fun i => ∃ j : Nat, j ≤ m' ∧ i = .int .i64 (j : Int) ∧ ∀ j', j' < j → ks.getD j' ByteArray.empty ≠ x) (fun i => m' - (intOf i).toNat)
  case atStart => exact ⟨0, Nat.zero_le _, rfl, fun j' h => by omega⟩
  case round =>
    obtain ⟨j, hj, rfl, hno⟩ := hrel
    have HN := hide hno; clear hno
    by_cases hlt : j < m'
    · obtain ⟨q, hq⟩ : ∃ q, ks[j]? = some q := ⟨_, List.getElem?_eq_getElem (by rw [(unhide HL).2]; exact hlt)⟩
      obtain ⟨b', o', rfl, hqc, _⟩ := (unhide HS) j q hq
      have hbw' := World.block_lt_of_cell? w _ hqc
      simp only at hbw'
      have hqd : ks.getD j ByteArray.empty = q := by rw [List.getD_eq_getElem?_getD, hq]; rfl
      have hj0 : (0 : Int) ≤ (j : Int) := Int.natCast_nonneg _
      have hjm : (j : Int) < (m' : Int) := by omega
      by_cases hqx : q = x
      · subst hqx
        have hidx : Lib.idxOfS ks q = (j : Int) := by
          have := Lib.idxFromS_hit q ks j 0 (by rw [(unhide HL).2]; exact hlt) hqd (unhide HN)
          simpa [Lib.idxOfS] using this
        have hget : g = l[j]? := by
          rw [← unhide HG]
          simp only [getF, hidx]
          rw [if_pos ⟨trivial, by omega⟩]
          simp
        by_cases hjl : j < m
        · obtain ⟨y, hy⟩ : ∃ y, l[j]? = some y := ⟨_, List.getElem?_eq_getElem (by rw [(unhide HL).1]; exact hjl)⟩
          obtain ⟨b, o, k1, n1, t1, A1, p1, c1, A2, p2, c2, rfl, d0, d1, d2, d3, d4, hvx⟩ := (unhide HE) j y hy
          have hbw := World.block_lt_of_cell? w _ d0
          simp only at hbw
          rw [hy] at hget
          have HGET := hide hget; have HVX := hide hvx
          have hjm2 : (j : Int) < (m : Int) := by omega
          have hge : decide ((m : Int) ≤ (j : Int)) = false := decide_eq_false (by omega)
          clear hget hvx hy hq hqd hidx
          go_wp2_with fail
          have hr := unhide HGET
          subst hr
          exact bodyPost_ret (v := .tuple #[vaV k1 n1 t1 A1 p1 c1 A2 p2 c2, .bool true]) (by simp [results, Tryd.results20, go_sem]) rfl ⟨_, rfl, (unhide HVX).later (by go_grown), by go_grown⟩
        · have hno : l[j]? = none := List.getElem?_eq_none (by rw [(unhide HL).1]; omega)
          rw [hno] at hget
          have HGET := hide hget
          have hge : decide ((m : Int) ≤ (j : Int)) = true := decide_eq_true (by omega)
          clear hget hq hqd hidx hno
          go_wp2_with fail
          have hr := unhide HGET
          subst hr
          exact bodyPost_ret (v := .tuple #[zeroV, .bool false]) (by simp [results, Tryd.results20, go_sem]) rfl ⟨_, rfl, VAt.zero _, by go_grown⟩
      · have hqn : ¬ q.toList = x.toList := fun h => hqx (toList_inj h)
        have hqe : (q.toList == x.toList) = false := by simp [hqn]
        have HN2 := hide (show ∀ j', j' < j + 1 → ks.getD j' ByteArray.empty ≠ x from fun j' h => by
          by_cases hjj : j' < j
          · exact (unhide HN) j' hjj
          · obtain rfl : j' = j := by omega
            rw [hqd]; exact hqx)
        clear hq hqd hqx
        go_wp2_with fail
        go_round
        case rel => exact ⟨j + 1, by omega, by go_num, unhide HN2⟩
        case measure => simp [intOf]; omega
    · have hjm : m' = j := by omega
      subst hjm
      have hidx : Lib.idxOfS ks x = -1 := Lib.idxFromS_miss x ks 0 fun j' h => (unhide HN) j' (by rw [(unhide HL).2] at h; exact h)
      have hget : g = none := by
        rw [← unhide HG]
        simp only [getF, hidx]
        rfl
      subst hget
      clear hidx HG
      go_wp2_with fail
      exact bodyPost_ret (v := .tuple #[zeroV, .bool false]) (by simp [results, Tryd.results20, go_sem]) rfl ⟨_, rfl, VAt.zero _, by go_grown⟩
theorem rget_any (V : Va) (v : Value) (x : ByteArray) (w : World) (h : VAt w V v) : Calls Tryd.prog 20 #[v, .string x] w (GotIs (getF V x) w) := by
  obtain ⟨k, n, s, l, ks, A, c, A', c', rfl, rfl, _, _, _, h1, h2, _, _, hE, hS⟩ := h.open
  by_cases hk : k = 4
  · subst hk
    exact rget_dict n s A l.length c A' ks.length c' l ks x w h1 h2 ⟨rfl, rfl⟩ hE hS _ rfl
  · have : getF (.mk k n s l ks) x = none := by simp only [getF]; rw [if_neg (fun h => hk h.1)]
    rw [this]
    exact rget_kind k n s A _ c A' _ c' x w hk
end Go.Proofs.YtpjfpcbodjmbnaaDoor
