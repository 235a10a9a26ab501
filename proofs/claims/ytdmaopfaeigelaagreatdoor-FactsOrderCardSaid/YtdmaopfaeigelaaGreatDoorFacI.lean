/- Contracts over the program of facts: players of squads, cards, sheets. -/
import Derived.Test.YtdmaopfaeigelaaGreatDoorFacO
import Derived.Test.YtdmaopfaeigelaaGreatDoorFacShelf
import Derived.Test.YtdmaopfaeigelaaGreatDoorFacLay
namespace Go.Proofs.YtdmaopfaeigelaaGreatDoor
set_option linter.unusedSimpArgs false
set_option linter.unusedVariables false
open Go.RowKit

theorem incr_pair {l : List Int} (h : incr l = true) : l.Pairwise (· ≤ ·) := by
  have hi := (incr_iff l).1 h
  have key : ∀ d i, i + d < l.length → l.getD i 0 ≤ l.getD (i + d) 0 := by
    intro d
    induction d with
    | zero => intro i _; exact Int.le_refl _
    | succ d ih =>
      intro i hid
      have h1 := ih i (by omega)
      have h2 := hi (i + d + 1) (by omega) (by omega)
      rw [Nat.add_sub_cancel] at h2
      rw [show i + (d + 1) = i + d + 1 by omega]
      omega
  rw [List.pairwise_iff_getElem]
  intro i j h1 h2 hij
  have := key (j - i) i (by omega)
  rw [show i + (j - i) = j by omega, List.getD_eq_getElem?_getD, List.getD_eq_getElem?_getD, List.getElem?_eq_getElem h1, List.getElem?_eq_getElem h2] at this
  exact this
set_option maxRecDepth 100000 in
theorem search_nil (A : Option Addr) (c : Nat) (x : Int) (w : World) : Calls Tryz.prog 255 #[.slice A 0 c, .int .i64 x] w fun e w' => e = .returned (.tuple #[.int .i64 0, .bool false]) ∧ w' = w := by
  go_enter Tryz.func255, Tryz.ntmps255
  go_wp2_with fail
  go_loopg [7, 8] 0 (fun g s7 s8 wx => s7 = .int .i64 0 ∧ s8 = .int .i64 0 ∧ wx = w)
  case atStart => exact ⟨rfl, rfl, rfl⟩
  case round =>
    obtain ⟨rfl, rfl, rfl⟩ := hrel
    go_wp2_with fail
    go_ret2
    exact ⟨rfl, rfl⟩
theorem search_any (l : List Int) (hs : incr l = true) (A : Option Addr) (n c : Nat) (hn : n = l.length) (w : World) (hA : Sl w A l c) (x : Int) :
    ∃ i : Int, Calls Tryz.prog 255 #[.slice A n c, .int .i64 x] w fun e w' => e = .returned (.tuple #[.int .i64 i, .bool (l.contains x)]) ∧ ∃ q, w' = w.drewN q := by
  by_cases h0 : l = []
  · subst h0
    subst hn
    exact ⟨0, (search_nil A c x w).mono (by rintro e w' ⟨rfl, rfl⟩; exact ⟨rfl, 0, rfl⟩)⟩
  · obtain ⟨b, o, rfl, hc⟩ := hA.it.at_ h0
    have h := Tryz.slices_BinarySearch_int b o n c l x w (by omega) (by have := hA.few; omega) hc (by rw [hn, List.take_length]; exact incr_pair hs)
    have ht : l.take n = l := by rw [hn, List.take_length]
    rw [ht] at h
    exact ⟨_, h⟩
set_option maxRecDepth 100000 in
theorem in_any (l : List Int) (hs : incr l = true) (A : Option Addr) (n c : Nat) (hn : n = l.length) (w : World) (hA : Sl w A l c) (x : Int) :
    Calls Tryz.prog 222 #[.slice A n c, .int .i64 x] w fun e w' => e = .returned (.bool (l.contains x)) ∧ ∃ q, w' = w.drewN q := by
  obtain ⟨i, h⟩ := search_any l hs A n c hn w hA x
  obtain ⟨z, hz⟩ : ∃ z, z = l.contains x := ⟨_, rfl⟩
  rw [← hz] at h ⊢
  have H := hide h
  clear h hz hs hn hA
  go_enter Tryz.func222, Tryz.ntmps222
  go_wp2_with fail
  refine (unhide H).mono ?_; rintro e W2 ⟨rfl, q, rfl⟩
  go_wp2_with fail
  go_ret
  exact ⟨rfl, q, rfl⟩
set_option maxRecDepth 100000 in
theorem common1_any (k : List Int) (hs : incr k = true) (A : Option Addr) (n c : Nat) (hn : n = k.length) (w : World) (hA : Sl w A k c) (b : Nat) (hb : w.cell? ⟨b, 0, none⟩ = some (.slice A n c)) (x : Int) :
    Calls Tryz.prog 221 #[.int .i64 x, .pointer (some ⟨b, 0, none⟩)] w fun e w' => e = .returned (.bool (k.contains x)) ∧ ∃ q, w' = w.drewN q := by
  have h := in_any k hs A n c hn w hA x
  obtain ⟨z, hz⟩ : ∃ z, z = k.contains x := ⟨_, rfl⟩
  rw [← hz] at h ⊢
  have H := hide h
  clear h hz hs hn hA
  go_enter Tryz.func221, Tryz.ntmps221
  go_wp2_with fail
  refine (unhide H).mono ?_; rintro e W2 ⟨rfl, q, rfl⟩
  go_wp2_with fail
  go_ret
  exact ⟨rfl, q, rfl⟩
set_option maxRecDepth 100000 in
theorem common_any (l k : List Int) (hs : incr k = true) (A1 : Option Addr) (n1 c1 : Nat) (e1 : n1 = l.length) (A2 : Option Addr) (n2 c2 : Nat) (e2 : n2 = k.length) (w : World) (h1 : Sl w A1 l c1) (h2 : Sl w A2 k c2) :
    Calls Tryz.prog 193 #[.slice A1 n1 c1, .slice A2 n2 c2] w fun e w' => e = .returned (.bool (l.any fun x => k.contains x)) ∧ Below w.heap.size w w' := by
  have hmf : ∀ (fn : Fn) (first cap : Array Value) (w : World), (Instr.makeFunc fn first cap).run Tryz.prog w = .ok (.func fn first cap) w := fun _ _ _ _ => rfl
  obtain ⟨z, hz⟩ : ∃ z, z = l.any fun x => k.contains x := ⟨_, rfl⟩
  rw [← hz]
  have HZ := hide hz; have HS := hide hs; have E1 := hide e1; have E2 := hide e2; have H1 := hide h1; have H2 := hide h2
  clear hz hs e1 e2 h1 h2
  go_enter Tryz.func193, Tryz.ntmps193
  go_upto_region 1 with fail
  generalize hX1 : w.alloc _ = W1
  have hB1 : Below w.heap.size w W1 := hX1 ▸ (Below.refl _ _).alloc (Nat.le_refl _) _
  have HV := hide (boxedV w W1 [.slice A2 n2 c2] 22 (by rw [← hX1]; rfl))
  have HB := hide hB1
  clear hX1 hB1
  have hp : PredAt Tryz.prog 221 #[.pointer (some ⟨w.heap.size, 0, none⟩)] (Value.int .i64) (fun x => k.contains x) W1 := by
    intro W x hb
    exact common1_any k (unhide HS) A2 n2 c2 (unhide E2) W (((unhide H2).keep (unhide HB)).keep hb) w.heap.size (((unhide HV).keep hb).cell rfl) x
  have hcf : Calls Tryz.prog 220 #[.slice A1 n1 c1, .func (.func 221) #[] #[.pointer (some ⟨w.heap.size, 0, none⟩)]] W1 fun e w' => e = .returned (.bool z) ∧ ∃ q, w' = W1.drewN q := by
    by_cases h0 : l = []
    · have en : n1 = 0 := by rw [unhide E1, h0]; rfl
      subst en
      refine (AnyE.slices_ContainsFunc_empty Tryz.cfInt A1 c1 _ W1).mono ?_
      rintro e w' ⟨rfl, rfl⟩
      exact ⟨by rw [unhide HZ, h0]; rfl, 0, rfl⟩
    · obtain ⟨b, o, rfl, hc⟩ := ((unhide H1).keep (unhide HB)).it.at_ h0
      have h := AnyE.slices_ContainsFunc Tryz.cfInt (Value.int .i64) (fun x => k.contains x) _ _ (fun args w => by kernel_rfl) b o n1 c1 l W1 hp (by have := unhide E1; omega) (by have := unhide E1; have := (unhide H1).few; omega) (fun j hj => by rw [hc j hj, List.getD_eq_getElem?_getD, List.getElem?_eq_getElem hj, getElem!_pos l j hj]; rfl)
      rw [unhide HZ]
      have ht : l.take n1 = l := by rw [unhide E1, List.take_length]
      rw [ht] at h
      exact h
  have HC := hide hcf
  clear hcf hp
  go_wp2_with fail
  refine (unhide HC).mono ?_; rintro e W2 ⟨rfl, q, rfl⟩
  have HB2 := hide (belowDrewN q (unhide HB))
  go_wp2_with fail
  go_ret
  exact ⟨rfl, unhide HB2⟩
set_option maxRecDepth 100000 in
set_option maxHeartbeats 1000000 in
/-- every card of a list -/
theorem everyC_any (w : World) (A : Option Addr) (n c : Nat) (l : List Cd) (hn : n = l.length) (hA : Sc w A l c) (F : FuncId) (p : Int → Bool) (cap : Array Value) (hrun : ∀ (args : Array Value) (w : World), (callFunc F args).run Tryz.prog w = .ok (.enter F args) w)
    (hF : ∀ (x : Int) (r : Bool) (W : World), Below w.heap.size w W → Calls Tryz.prog F (#[.agg #[.int .i64 x, .bool r]] ++ cap) W fun e w' => e = .returned (.bool (p x)) ∧ Below W.heap.size W w') :
    Calls Tryz.prog 223 #[.slice A n c, .func (.func F) #[] cap] w fun x w' => x = .returned (.bool (l.all fun x => p x.p)) ∧ Below w.heap.size w w' := by
  have HA := hide hA
  have HF := hide hF; have HRUN := hide hrun
  have HN : Hid (n = l.length ∧ n ≤ 1000) := ⟨hn, by have := hA.few; omega⟩
  have kc : (n : Int) ≤ (c : Int) := by have := hA.cap; omega
  clear hA hn hF hrun
  go_enter Tryz.func223, Tryz.ntmps223
  go_wp2_with fail
  go_loopg [9] n (fun g y9 wx => ∃ k : Nat, y9 = .int .i64 (k : Int) ∧ g + k = n ∧ (∀ i, i < k → p (l.getD i ⟨0, false⟩).p = true) ∧ Below w.heap.size w wx)
  case atStart => exact ⟨0, rfl, by omega, fun i h1 => by omega, Below.refl _ _⟩
  case round =>
    obtain ⟨k, rfl, hk, hall, hbw⟩ := hrel
    have HALL := hide hall
    have HB := hide hbw
    by_cases hkn : k < n
    · obtain ⟨g, rfl⟩ : ∃ g, gk = g + 1 := ⟨gk - 1, by omega⟩
      have i1 : (k : Int) < (n : Int) := by omega
      have i0 : (0 : Int) ≤ (k : Int) := Int.natCast_nonneg _
      have wk : IntKind.i64.wrap ((k : Int) + 1) = ((k + 1 : Nat) : Int) := (IntWalk.i64_in _ (by have := unhide HN; omega)).trans (by omega)
      obtain ⟨b, o, rfl, hc⟩ := ((unhide HA).it.keep hbw).at_ (fun e => by have := unhide HN; rw [e] at this; simp at this; omega)
      obtain ⟨x, hx⟩ : ∃ x, x = l.getD k ⟨0, false⟩ := ⟨_, rfl⟩
      obtain ⟨h1, h2⟩ := hc k x (by rw [hx, List.getD_eq_getElem?_getD, List.getElem?_eq_getElem (by have := unhide HN; omega)]; rfl)
      have hlb := lt_of_cell h1
      have HX : Hid (x = l.getD k ⟨0, false⟩ ∧ k < n ∧ g + 1 + k = n) := ⟨hx, hkn, hk⟩
      obtain ⟨xp, xr⟩ := x
      dsimp only at h1 h2
      obtain ⟨z, hz⟩ : ∃ z, z = p xp := ⟨_, rfl⟩
      have HZ := hide hz
      clear hc hx hkn hk hall hz hbw
      go_upto_region 4 with fail
      generalize hX1 : wr.alloc _ = W1
      have hB1 : Below wr.heap.size wr W1 := hX1 ▸ (Below.refl _ _).alloc (Nat.le_refl _) _
      have HV := hide (boxedV wr W1 [.int .i64 xp, .bool xr] 139 (by rw [← hX1]; rfl))
      have HB2 := hide (thenB (unhide HB) hB1)
      have hc0 : W1.cell? ⟨wr.heap.size, 0, none⟩ = some (.int .i64 xp) := (unhide HV).cell rfl
      have hc1 : W1.cell? ⟨wr.heap.size, 1, none⟩ = some (.bool xr) := (unhide HV).cell rfl
      have hcal := (unhide HF) xp xr W1 (unhide HB2)
      rw [← unhide HZ] at hcal
      have HC := hide hcal
      clear hX1 hB1 h1 h2 hlb hcal
      go_wp2_with fail
      rw [(unhide HRUN) _ W1, Oper.upon_enter]
      refine (unhide HC).mono ?_; rintro e W2 ⟨rfl, hG⟩
      have HB3 := hide (thenB (unhide HB2) hG)
      clear hG hc0 hc1
      dsimp only
      rename_i hK
      refine hK _ _ ?_
      clear hK
      cases z
      case false =>
        refine wpList_plain rfl fun Kt hKt => ?_
        go_simp
        refine hKt _ _ ?_
        clear hKt Kt
        try simp only [List.getElem_toArray, List.getElem_cons_zero, List.getElem_cons_succ, Act.put, List.setIfInBounds_toArray, List.set_cons_zero, List.set_cons_succ]
        have e : (l.all fun x => p x.p) = false := by
          have h := unhide HX
          rw [List.all_eq_false]
          refine ⟨l.getD k ⟨0, false⟩, ?_, ?_⟩
          · rw [List.getD_eq_getElem?_getD, List.getElem?_eq_getElem (by have := unhide HN; omega)]
            exact List.getElem_mem _
          · rw [← h.1, ← unhide HZ]; decide
        have E := hide e
        clear e
        go_wp2_with fail
        go_ret
        exact ⟨by rw [unhide E]; rfl, unhide HB3⟩
      refine wpList_plain rfl fun Kt hKt => ?_
      go_simp
      refine hKt _ _ ?_
      clear hKt Kt
      try simp only [List.getElem_toArray, List.getElem_cons_zero, List.getElem_cons_succ, Act.put, List.setIfInBounds_toArray, List.set_cons_zero, List.set_cons_succ]
      go_wp2_with fail
      go_roundg g
      case measure => omega
      case rel =>
        have h := unhide HX
        refine ⟨k + 1, rfl, by omega, fun i h1 => ?_, unhide HB3⟩
        by_cases hi : i < k
        · exact (unhide HALL) i hi
        · obtain rfl : i = k := by omega
          rw [← h.1, ← unhide HZ]
    · have i1 : ¬ (k : Int) < (n : Int) := by omega
      have e : (l.all fun x => p x.p) = true := by
        rw [List.all_eq_true]
        intro x hx
        obtain ⟨i, hi⟩ := List.getElem?_of_mem hx
        have hlt := (List.getElem?_eq_some_iff.1 hi).1
        have := hall i (by have := unhide HN; omega)
        rwa [List.getD_eq_getElem?_getD, hi] at this
      have E := hide e
      clear e hall hk hkn hbw
      go_wp2_with fail
      go_ret
      exact ⟨by rw [unhide E]; rfl, unhide HB⟩
set_option maxRecDepth 100000 in
theorem cards1_any (k : List Int) (hs : incr k = true) (A : Option Addr) (n c : Nat) (hn : n = k.length) (w : World) (hA : Sl w A k c) (b : Nat) (hb : w.cell? ⟨b, 0, none⟩ = some (.slice A n c)) (x : Int) (r : Bool) :
    Calls Tryz.prog 224 #[.agg #[.int .i64 x, .bool r], .pointer (some ⟨b, 0, none⟩)] w fun e w' => e = .returned (.bool (k.contains x)) ∧ Below w.heap.size w w' := by
  have HI := hide fun W (h : Below w.heap.size w W) => in_any k hs A n c hn W (hA.keep h) x
  obtain ⟨z, hz⟩ : ∃ z, z = k.contains x := ⟨_, rfl⟩
  rw [← hz] at HI ⊢
  have HBB := hide hb
  have hlt := lt_of_cell hb
  clear hz hs hn hA hb
  go_enter Tryz.func224, Tryz.ntmps224
  go_upto_region 1 with fail
  generalize hX1 : w.alloc _ = W1
  have hB1 : Below w.heap.size w W1 := hX1 ▸ (Below.refl _ _).alloc (Nat.le_refl _) _
  have HV := hide (boxedV w W1 [.int .i64 x, .bool r] 139 (by rw [← hX1]; rfl))
  have hc0 : W1.cell? ⟨w.heap.size, 0, none⟩ = some (.int .i64 x) := (unhide HV).cell rfl
  have hcb : W1.cell? ⟨b, 0, none⟩ = some (.slice A n c) := (hB1.cell (p := ⟨b, 0, none⟩) hlt).trans (unhide HBB)
  have HB := hide hB1
  clear hX1 hB1
  go_wp2_with fail
  refine ((unhide HI) W1 (unhide HB)).mono ?_; rintro e W2 ⟨rfl, q, rfl⟩
  have HB2 := hide (belowDrewN q (unhide HB))
  go_wp2_with fail
  go_ret
  exact ⟨rfl, unhide HB2⟩
def okCards (l : List Cd) (k : List Int) : Bool := decide (l.length ≤ 40) && l.all fun x => k.contains x.p
set_option maxRecDepth 100000 in
theorem cards_any (l : List Cd) (k : List Int) (hs : incr k = true) (A1 : Option Addr) (n1 c1 : Nat) (e1 : n1 = l.length) (A2 : Option Addr) (n2 c2 : Nat) (e2 : n2 = k.length) (w : World) (h1 : Sc w A1 l c1) (h2 : Sl w A2 k c2) :
    Calls Tryz.prog 194 #[.slice A1 n1 c1, .slice A2 n2 c2] w fun e w' => e = .returned (.bool (okCards l k)) ∧ Below w.heap.size w w' := by
  have hmf : ∀ (fn : Fn) (first cap : Array Value) (w : World), (Instr.makeFunc fn first cap).run Tryz.prog w = .ok (.func fn first cap) w := fun _ _ _ _ => rfl
  unfold okCards
  obtain ⟨z, hz⟩ : ∃ z, z = l.all fun x => k.contains x.p := ⟨_, rfl⟩
  rw [← hz, ← e1]
  have HZ := hide hz; have HS := hide hs; have E1 := hide e1; have E2 := hide e2; have H1 := hide h1; have H2 := hide h2
  clear hz hs e1 e2 h1 h2
  by_cases h40 : n1 ≤ 40
  case neg =>
    have i0 : ¬ (n1 : Int) ≤ 40 := by omega
    rw [decide_eq_false h40]
    clear h40
    go_enter Tryz.func194, Tryz.ntmps194
    go_upto_region 1 with fail
    generalize hX1 : w.alloc _ = W1
    have hB1 : Below w.heap.size w W1 := hX1 ▸ (Below.refl _ _).alloc (Nat.le_refl _) _
    have HB := hide hB1
    clear hX1 hB1
    go_wp2_with fail
    go_ret
    exact ⟨rfl, unhide HB⟩
  have i0 : (n1 : Int) ≤ 40 := by omega
  rw [decide_eq_true h40]
  clear h40
  go_enter Tryz.func194, Tryz.ntmps194
  go_upto_region 1 with fail
  generalize hX1 : w.alloc _ = W1
  have hB1 : Below w.heap.size w W1 := hX1 ▸ (Below.refl _ _).alloc (Nat.le_refl _) _
  have HV := hide (boxedV w W1 [.slice A2 n2 c2] 22 (by rw [← hX1]; rfl))
  have HB := hide hB1
  clear hX1 hB1
  have hev := everyC_any W1 A1 n1 c1 l (unhide E1) ((unhide H1).keep (unhide HB)) 224 (fun x => k.contains x) #[.pointer (some ⟨w.heap.size, 0, none⟩)] (fun args w => by kernel_rfl) (fun x r W hb => cards1_any k (unhide HS) A2 n2 c2 (unhide E2) W (((unhide H2).keep (unhide HB)).keep hb) w.heap.size (((unhide HV).keep hb).cell rfl) x r)
  rw [← unhide HZ] at hev
  have HC := hide hev
  clear hev
  go_wp2_with fail
  refine (unhide HC).mono ?_; rintro e W2 ⟨rfl, hG⟩
  have HB2 := hide (thenB (unhide HB) hG)
  clear hG
  go_wp2_with fail
  go_ret
  exact ⟨by simp, unhide HB2⟩
def okPens (s : Sh) : Bool := (decide (s.hp = 0) && decide (s.ap = 0)) || (!decide (s.g.c < 8) && (inR s.hp 0 99 && inR s.ap 0 99) && !decide (s.hp = s.ap))
set_option maxRecDepth 100000 in
theorem pens_any (s : Sh) (a : Ad) (w : World) : Calls Tryz.prog 191 #[.agg (sC s a).toArray] w fun x w' => x = .returned (.bool (okPens s)) ∧ Below w.heap.size w w' := by
  obtain ⟨R, hR⟩ : ∃ R, R = okPens s := ⟨_, rfl⟩
  rw [← hR]
  have HR := hide hR
  clear hR
  obtain ⟨cs, hcs⟩ : ∃ zz, zz = sC s a := ⟨_, rfl⟩
  rw [← hcs]
  have HCS := hide hcs
  clear hcs
  go_enter Tryz.func191, Tryz.ntmps191
  go_upto_region 1 with fail
  generalize hX1 : w.alloc _ = W1
  have hB1 : Below w.heap.size w W1 := hX1 ▸ (Below.refl _ _).alloc (Nat.le_refl _) _
  have HV := hide (boxedV w W1 cs 31 (by rw [← hX1]; rfl))
  rw [unhide HCS] at HV
  have HB := hide hB1
  clear hX1 hB1 HCS
  have hc1 : W1.cell? ⟨w.heap.size, 1, none⟩ = some (.int .i64 s.g.c) := (unhide HV).cell rfl
  have hc7 : W1.cell? ⟨w.heap.size, 7, none⟩ = some (.int .i64 s.hp) := (unhide HV).cell rfl
  have hc8 : W1.cell? ⟨w.heap.size, 8, none⟩ = some (.int .i64 s.ap) := (unhide HV).cell rfl
  by_cases h7 : s.hp = 0 ∧ s.ap = 0
  · have i7 : (s.hp == 0) = true := by simp [h7.1]
    have i8 : (s.ap == 0) = true := by simp [h7.2]
    have e : R = true := by rw [unhide HR, okPens, h7.1, h7.2]; rfl
    have E := hide e
    clear h7 e
    go_wp2_with fail
    go_ret
    exact ⟨by rw [unhide E]; rfl, unhide HB⟩
  have H7 := hide h7
  obtain ⟨b1, hb1⟩ : ∃ b, b = decide (s.g.c < 8) := ⟨_, rfl⟩
  obtain ⟨b2, hb2⟩ : ∃ b, b = (inR s.hp 0 99 && inR s.ap 0 99) := ⟨_, rfl⟩
  obtain ⟨b3, hb3⟩ : ∃ b, (s.hp != s.ap) = b := ⟨_, rfl⟩
  have HR2 : Hid (R = (!b1 && b2 && b3)) := by
    have : R = (!b1 && b2 && b3) := by
      rw [unhide HR, okPens, ← hb1, ← hb2, ← hb3]
      have : (decide (s.hp = 0) && decide (s.ap = 0)) = false := by
        cases e : (decide (s.hp = 0) && decide (s.ap = 0))
        · rfl
        · rw [Bool.and_eq_true, decide_eq_true_eq, decide_eq_true_eq] at e
          exact absurd e h7
      rw [this, Bool.false_or, bne_dec]
    exact this
  have HL := hide fun W => league_any s.g.c W
  rw [← hb1] at HL
  have HG := hide fun W => goals_any s.hp s.ap W
  rw [← hb2] at HG
  clear HR hb1 hb2 h7
  by_cases h0 : s.hp = 0
  · have i7 : (s.hp == 0) = true := by simp [h0]
    have i8 : (s.ap == 0) = false := by have := unhide H7; simp; exact fun h => this ⟨h0, h⟩
    clear h0
    go_wp2_with fail
    refine ((unhide HL) W1).mono ?_; rintro x W2 ⟨rfl, rfl⟩
    cases b1
    case true =>
      go_wp2_with fail
      go_ret
      exact ⟨by rw [unhide HR2]; rfl, unhide HB⟩
    go_wp2_with fail
    refine ((unhide HG) W2).mono ?_; rintro x W3 ⟨rfl, hG⟩
    have HV3 := hide ((unhide HV).keep hG); have HB3 := hide (thenB (unhide HB) hG)
    clear hG hc1 hc7 hc8
    have hc7 : W3.cell? ⟨w.heap.size, 7, none⟩ = some (.int .i64 s.hp) := (unhide HV3).cell rfl
    have hc8 : W3.cell? ⟨w.heap.size, 8, none⟩ = some (.int .i64 s.ap) := (unhide HV3).cell rfl
    cases b2
    case false =>
      go_wp2_with fail
      go_ret
      exact ⟨by rw [unhide HR2]; rfl, unhide HB3⟩
    cases b3
    case false =>
      go_wp2_with fail
      go_ret
      exact ⟨by rw [unhide HR2]; rfl, unhide HB3⟩
    go_wp2_with fail
    go_ret
    exact ⟨by rw [unhide HR2]; rfl, unhide HB3⟩
  · have i7 : (s.hp == 0) = false := by simp [h0]
    clear h0
    go_wp2_with fail
    refine ((unhide HL) W1).mono ?_; rintro x W2 ⟨rfl, rfl⟩
    cases b1
    case true =>
      go_wp2_with fail
      go_ret
      exact ⟨by rw [unhide HR2]; rfl, unhide HB⟩
    go_wp2_with fail
    refine ((unhide HG) W2).mono ?_; rintro x W3 ⟨rfl, hG⟩
    have HV3 := hide ((unhide HV).keep hG); have HB3 := hide (thenB (unhide HB) hG)
    clear hG hc1 hc7 hc8
    have hc7 : W3.cell? ⟨w.heap.size, 7, none⟩ = some (.int .i64 s.hp) := (unhide HV3).cell rfl
    have hc8 : W3.cell? ⟨w.heap.size, 8, none⟩ = some (.int .i64 s.ap) := (unhide HV3).cell rfl
    cases b2
    case false =>
      go_wp2_with fail
      go_ret
      exact ⟨by rw [unhide HR2]; rfl, unhide HB3⟩
    cases b3
    case false =>
      go_wp2_with fail
      go_ret
      exact ⟨by rw [unhide HR2]; rfl, unhide HB3⟩
    go_wp2_with fail
    go_ret
    exact ⟨by rw [unhide HR2]; rfl, unhide HB3⟩
def okSheet (s : Sh) : Bool := okGame s.g && inR s.rf 0 1 && (inR s.hg 0 99 && inR s.ag 0 99) && okPens s && okSquad s.hs && okSquad s.as_ && !(s.hs.any fun x => s.as_.contains x) && okCards s.hc s.hs && okCards s.ac s.as_
theorem incr_of_squad {l : List Int} (h : okSquad l = true) : incr l = true := by
  unfold okSquad at h
  rw [Bool.and_eq_true] at h
  exact h.2
set_option maxRecDepth 100000 in
set_option maxHeartbeats 2000000 in
theorem sheet_any (s : Sh) (a : Ad) (w : World) (f1 : Sl w a.hs s.hs a.nhs) (f2 : Sl w a.as_ s.as_ a.nas) (f3 : Sc w a.hc s.hc a.nhc) (f4 : Sc w a.ac s.ac a.nac) : Calls Tryz.prog 116 #[.agg (sC s a).toArray] w fun x w' => x = .returned (.bool (okSheet s)) ∧ Below w.heap.size w w' := by
  obtain ⟨R, hR⟩ : ∃ R, R = okSheet s := ⟨_, rfl⟩
  rw [← hR]
  obtain ⟨b0, hb0⟩ : ∃ b, b = (okGame s.g) := ⟨_, rfl⟩
  obtain ⟨b1, hb1⟩ : ∃ b, b = (inR s.rf 0 1) := ⟨_, rfl⟩
  obtain ⟨b2, hb2⟩ : ∃ b, b = (inR s.hg 0 99 && inR s.ag 0 99) := ⟨_, rfl⟩
  obtain ⟨b3, hb3⟩ : ∃ b, b = (okPens s) := ⟨_, rfl⟩
  obtain ⟨b4, hb4⟩ : ∃ b, b = (okSquad s.hs) := ⟨_, rfl⟩
  obtain ⟨b5, hb5⟩ : ∃ b, b = (okSquad s.as_) := ⟨_, rfl⟩
  obtain ⟨b6, hb6⟩ : ∃ b, b = ((s.hs.any fun x => s.as_.contains x)) := ⟨_, rfl⟩
  obtain ⟨b7, hb7⟩ : ∃ b, b = (okCards s.hc s.hs) := ⟨_, rfl⟩
  obtain ⟨b8, hb8⟩ : ∃ b, b = (okCards s.ac s.as_) := ⟨_, rfl⟩
  have HR : Hid (R = (b0 && b1 && b2 && b3 && b4 && b5 && !b6 && b7 && b8)) := by
    have : R = (b0 && b1 && b2 && b3 && b4 && b5 && !b6 && b7 && b8) := by
      rw [hR, hb0, hb1, hb2, hb3, hb4, hb5, hb6, hb7, hb8]; rfl
    exact this
  have F1 := hide f1; have F2 := hide f2; have F3 := hide f3; have F4 := hide f4
  have E0 := hide hb0
  have E1 := hide hb1
  have E2 := hide hb2
  have E3 := hide hb3
  have E4 := hide hb4
  have E5 := hide hb5
  have E6 := hide hb6
  have E7 := hide hb7
  have E8 := hide hb8
  clear hR f1 f2 f3 f4 hb0 hb1 hb2 hb3 hb4 hb5 hb6 hb7 hb8
  obtain ⟨cs, hcs⟩ : ∃ zz, zz = sC s a := ⟨_, rfl⟩
  rw [← hcs]
  have HCS := hide hcs
  clear hcs
  go_enter Tryz.func116, Tryz.ntmps116
  go_upto_region 1 with fail
  generalize hX1 : w.alloc _ = W1
  have hB1 : Below w.heap.size w W1 := hX1 ▸ (Below.refl _ _).alloc (Nat.le_refl _) _
  have HV := hide (boxedV w W1 cs 31 (by rw [← hX1]; rfl))
  rw [unhide HCS] at HV
  have HB := hide hB1
  clear hX1 hB1 HCS
  have hc0 : W1.cell? ⟨w.heap.size, 0, none⟩ = some (.int .i64 s.g.s) := (unhide HV).cell rfl
  have hc1 : W1.cell? ⟨w.heap.size, 1, none⟩ = some (.int .i64 s.g.c) := (unhide HV).cell rfl
  have hc2 : W1.cell? ⟨w.heap.size, 2, none⟩ = some (.int .i64 s.g.h) := (unhide HV).cell rfl
  have hc3 : W1.cell? ⟨w.heap.size, 3, none⟩ = some (.int .i64 s.g.a) := (unhide HV).cell rfl
  have hc4 : W1.cell? ⟨w.heap.size, 4, none⟩ = some (.int .i64 s.rf) := (unhide HV).cell rfl
  have hc5 : W1.cell? ⟨w.heap.size, 5, none⟩ = some (.int .i64 s.hg) := (unhide HV).cell rfl
  have hc6 : W1.cell? ⟨w.heap.size, 6, none⟩ = some (.int .i64 s.ag) := (unhide HV).cell rfl
  have hc7 : W1.cell? ⟨w.heap.size, 7, none⟩ = some (.int .i64 s.hp) := (unhide HV).cell rfl
  have hc8 : W1.cell? ⟨w.heap.size, 8, none⟩ = some (.int .i64 s.ap) := (unhide HV).cell rfl
  have hc9 : W1.cell? ⟨w.heap.size, 9, none⟩ = some (.slice a.hs s.hs.length a.nhs) := (unhide HV).cell rfl
  have hc10 : W1.cell? ⟨w.heap.size, 10, none⟩ = some (.slice a.as_ s.as_.length a.nas) := (unhide HV).cell rfl
  have hc11 : W1.cell? ⟨w.heap.size, 11, none⟩ = some (.slice a.hc s.hc.length a.nhc) := (unhide HV).cell rfl
  have hc12 : W1.cell? ⟨w.heap.size, 12, none⟩ = some (.slice a.ac s.ac.length a.nac) := (unhide HV).cell rfl
  have HC := hide (game_any s.g W1)
  rw [← unhide E0] at HC
  go_wp2_with fail
  refine (unhide HC).mono ?_; rintro x W2 ⟨rfl, hG⟩
  clear HC hc0 hc1 hc2 hc3 hc4 hc5 hc6 hc7 hc8 hc9 hc10 hc11 hc12
  have HV := hide ((unhide HV).keep hG); have HB := hide (thenB (unhide HB) hG)
  clear hG
  have hc0 : W2.cell? ⟨w.heap.size, 0, none⟩ = some (.int .i64 s.g.s) := (unhide HV).cell rfl
  have hc1 : W2.cell? ⟨w.heap.size, 1, none⟩ = some (.int .i64 s.g.c) := (unhide HV).cell rfl
  have hc2 : W2.cell? ⟨w.heap.size, 2, none⟩ = some (.int .i64 s.g.h) := (unhide HV).cell rfl
  have hc3 : W2.cell? ⟨w.heap.size, 3, none⟩ = some (.int .i64 s.g.a) := (unhide HV).cell rfl
  have hc4 : W2.cell? ⟨w.heap.size, 4, none⟩ = some (.int .i64 s.rf) := (unhide HV).cell rfl
  have hc5 : W2.cell? ⟨w.heap.size, 5, none⟩ = some (.int .i64 s.hg) := (unhide HV).cell rfl
  have hc6 : W2.cell? ⟨w.heap.size, 6, none⟩ = some (.int .i64 s.ag) := (unhide HV).cell rfl
  have hc7 : W2.cell? ⟨w.heap.size, 7, none⟩ = some (.int .i64 s.hp) := (unhide HV).cell rfl
  have hc8 : W2.cell? ⟨w.heap.size, 8, none⟩ = some (.int .i64 s.ap) := (unhide HV).cell rfl
  have hc9 : W2.cell? ⟨w.heap.size, 9, none⟩ = some (.slice a.hs s.hs.length a.nhs) := (unhide HV).cell rfl
  have hc10 : W2.cell? ⟨w.heap.size, 10, none⟩ = some (.slice a.as_ s.as_.length a.nas) := (unhide HV).cell rfl
  have hc11 : W2.cell? ⟨w.heap.size, 11, none⟩ = some (.slice a.hc s.hc.length a.nhc) := (unhide HV).cell rfl
  have hc12 : W2.cell? ⟨w.heap.size, 12, none⟩ = some (.slice a.ac s.ac.length a.nac) := (unhide HV).cell rfl
  cases b0
  case false =>
    go_wp2_with fail
    go_ret
    exact ⟨by rw [unhide HR]; rfl, unhide HB⟩
  have HC := hide (within_any s.rf 0 1 W2)
  rw [← unhide E1] at HC
  go_wp2_with fail
  refine (unhide HC).mono ?_; rintro x W3 ⟨rfl, rfl⟩
  clear HC
  cases b1
  case false =>
    go_wp2_with fail
    go_ret
    exact ⟨by rw [unhide HR]; rfl, unhide HB⟩
  have HC := hide (goals_any s.hg s.ag W3)
  rw [← unhide E2] at HC
  go_wp2_with fail
  refine (unhide HC).mono ?_; rintro x W4 ⟨rfl, hG⟩
  clear HC hc0 hc1 hc2 hc3 hc4 hc5 hc6 hc7 hc8 hc9 hc10 hc11 hc12
  have HV := hide ((unhide HV).keep hG); have HB := hide (thenB (unhide HB) hG)
  clear hG
  have hc0 : W4.cell? ⟨w.heap.size, 0, none⟩ = some (.int .i64 s.g.s) := (unhide HV).cell rfl
  have hc1 : W4.cell? ⟨w.heap.size, 1, none⟩ = some (.int .i64 s.g.c) := (unhide HV).cell rfl
  have hc2 : W4.cell? ⟨w.heap.size, 2, none⟩ = some (.int .i64 s.g.h) := (unhide HV).cell rfl
  have hc3 : W4.cell? ⟨w.heap.size, 3, none⟩ = some (.int .i64 s.g.a) := (unhide HV).cell rfl
  have hc4 : W4.cell? ⟨w.heap.size, 4, none⟩ = some (.int .i64 s.rf) := (unhide HV).cell rfl
  have hc5 : W4.cell? ⟨w.heap.size, 5, none⟩ = some (.int .i64 s.hg) := (unhide HV).cell rfl
  have hc6 : W4.cell? ⟨w.heap.size, 6, none⟩ = some (.int .i64 s.ag) := (unhide HV).cell rfl
  have hc7 : W4.cell? ⟨w.heap.size, 7, none⟩ = some (.int .i64 s.hp) := (unhide HV).cell rfl
  have hc8 : W4.cell? ⟨w.heap.size, 8, none⟩ = some (.int .i64 s.ap) := (unhide HV).cell rfl
  have hc9 : W4.cell? ⟨w.heap.size, 9, none⟩ = some (.slice a.hs s.hs.length a.nhs) := (unhide HV).cell rfl
  have hc10 : W4.cell? ⟨w.heap.size, 10, none⟩ = some (.slice a.as_ s.as_.length a.nas) := (unhide HV).cell rfl
  have hc11 : W4.cell? ⟨w.heap.size, 11, none⟩ = some (.slice a.hc s.hc.length a.nhc) := (unhide HV).cell rfl
  have hc12 : W4.cell? ⟨w.heap.size, 12, none⟩ = some (.slice a.ac s.ac.length a.nac) := (unhide HV).cell rfl
  cases b2
  case false =>
    go_wp2_with fail
    go_ret
    exact ⟨by rw [unhide HR]; rfl, unhide HB⟩
  have HC := hide (pens_any s a W4)
  rw [← unhide E3] at HC
  go_wp2_with fail
  refine (unhide HC).mono ?_; rintro x W5 ⟨rfl, hG⟩
  clear HC hc0 hc1 hc2 hc3 hc4 hc5 hc6 hc7 hc8 hc9 hc10 hc11 hc12
  have HV := hide ((unhide HV).keep hG); have HB := hide (thenB (unhide HB) hG)
  clear hG
  have hc0 : W5.cell? ⟨w.heap.size, 0, none⟩ = some (.int .i64 s.g.s) := (unhide HV).cell rfl
  have hc1 : W5.cell? ⟨w.heap.size, 1, none⟩ = some (.int .i64 s.g.c) := (unhide HV).cell rfl
  have hc2 : W5.cell? ⟨w.heap.size, 2, none⟩ = some (.int .i64 s.g.h) := (unhide HV).cell rfl
  have hc3 : W5.cell? ⟨w.heap.size, 3, none⟩ = some (.int .i64 s.g.a) := (unhide HV).cell rfl
  have hc4 : W5.cell? ⟨w.heap.size, 4, none⟩ = some (.int .i64 s.rf) := (unhide HV).cell rfl
  have hc5 : W5.cell? ⟨w.heap.size, 5, none⟩ = some (.int .i64 s.hg) := (unhide HV).cell rfl
  have hc6 : W5.cell? ⟨w.heap.size, 6, none⟩ = some (.int .i64 s.ag) := (unhide HV).cell rfl
  have hc7 : W5.cell? ⟨w.heap.size, 7, none⟩ = some (.int .i64 s.hp) := (unhide HV).cell rfl
  have hc8 : W5.cell? ⟨w.heap.size, 8, none⟩ = some (.int .i64 s.ap) := (unhide HV).cell rfl
  have hc9 : W5.cell? ⟨w.heap.size, 9, none⟩ = some (.slice a.hs s.hs.length a.nhs) := (unhide HV).cell rfl
  have hc10 : W5.cell? ⟨w.heap.size, 10, none⟩ = some (.slice a.as_ s.as_.length a.nas) := (unhide HV).cell rfl
  have hc11 : W5.cell? ⟨w.heap.size, 11, none⟩ = some (.slice a.hc s.hc.length a.nhc) := (unhide HV).cell rfl
  have hc12 : W5.cell? ⟨w.heap.size, 12, none⟩ = some (.slice a.ac s.ac.length a.nac) := (unhide HV).cell rfl
  cases b3
  case false =>
    go_wp2_with fail
    go_ret
    exact ⟨by rw [unhide HR]; rfl, unhide HB⟩
  have HC := hide (squad_any W5 a.hs s.hs.length a.nhs s.hs rfl ((unhide F1).keep (unhide HB)))
  rw [← unhide E4] at HC
  go_wp2_with fail
  refine (unhide HC).mono ?_; rintro x W6 ⟨rfl, hG⟩
  clear HC hc0 hc1 hc2 hc3 hc4 hc5 hc6 hc7 hc8 hc9 hc10 hc11 hc12
  have HV := hide ((unhide HV).keep hG); have HB := hide (thenB (unhide HB) hG)
  clear hG
  have hc0 : W6.cell? ⟨w.heap.size, 0, none⟩ = some (.int .i64 s.g.s) := (unhide HV).cell rfl
  have hc1 : W6.cell? ⟨w.heap.size, 1, none⟩ = some (.int .i64 s.g.c) := (unhide HV).cell rfl
  have hc2 : W6.cell? ⟨w.heap.size, 2, none⟩ = some (.int .i64 s.g.h) := (unhide HV).cell rfl
  have hc3 : W6.cell? ⟨w.heap.size, 3, none⟩ = some (.int .i64 s.g.a) := (unhide HV).cell rfl
  have hc4 : W6.cell? ⟨w.heap.size, 4, none⟩ = some (.int .i64 s.rf) := (unhide HV).cell rfl
  have hc5 : W6.cell? ⟨w.heap.size, 5, none⟩ = some (.int .i64 s.hg) := (unhide HV).cell rfl
  have hc6 : W6.cell? ⟨w.heap.size, 6, none⟩ = some (.int .i64 s.ag) := (unhide HV).cell rfl
  have hc7 : W6.cell? ⟨w.heap.size, 7, none⟩ = some (.int .i64 s.hp) := (unhide HV).cell rfl
  have hc8 : W6.cell? ⟨w.heap.size, 8, none⟩ = some (.int .i64 s.ap) := (unhide HV).cell rfl
  have hc9 : W6.cell? ⟨w.heap.size, 9, none⟩ = some (.slice a.hs s.hs.length a.nhs) := (unhide HV).cell rfl
  have hc10 : W6.cell? ⟨w.heap.size, 10, none⟩ = some (.slice a.as_ s.as_.length a.nas) := (unhide HV).cell rfl
  have hc11 : W6.cell? ⟨w.heap.size, 11, none⟩ = some (.slice a.hc s.hc.length a.nhc) := (unhide HV).cell rfl
  have hc12 : W6.cell? ⟨w.heap.size, 12, none⟩ = some (.slice a.ac s.ac.length a.nac) := (unhide HV).cell rfl
  cases b4
  case false =>
    go_wp2_with fail
    go_ret
    exact ⟨by rw [unhide HR]; rfl, unhide HB⟩
  have HC := hide (squad_any W6 a.as_ s.as_.length a.nas s.as_ rfl ((unhide F2).keep (unhide HB)))
  rw [← unhide E5] at HC
  go_wp2_with fail
  refine (unhide HC).mono ?_; rintro x W7 ⟨rfl, hG⟩
  clear HC hc0 hc1 hc2 hc3 hc4 hc5 hc6 hc7 hc8 hc9 hc10 hc11 hc12
  have HV := hide ((unhide HV).keep hG); have HB := hide (thenB (unhide HB) hG)
  clear hG
  have hc0 : W7.cell? ⟨w.heap.size, 0, none⟩ = some (.int .i64 s.g.s) := (unhide HV).cell rfl
  have hc1 : W7.cell? ⟨w.heap.size, 1, none⟩ = some (.int .i64 s.g.c) := (unhide HV).cell rfl
  have hc2 : W7.cell? ⟨w.heap.size, 2, none⟩ = some (.int .i64 s.g.h) := (unhide HV).cell rfl
  have hc3 : W7.cell? ⟨w.heap.size, 3, none⟩ = some (.int .i64 s.g.a) := (unhide HV).cell rfl
  have hc4 : W7.cell? ⟨w.heap.size, 4, none⟩ = some (.int .i64 s.rf) := (unhide HV).cell rfl
  have hc5 : W7.cell? ⟨w.heap.size, 5, none⟩ = some (.int .i64 s.hg) := (unhide HV).cell rfl
  have hc6 : W7.cell? ⟨w.heap.size, 6, none⟩ = some (.int .i64 s.ag) := (unhide HV).cell rfl
  have hc7 : W7.cell? ⟨w.heap.size, 7, none⟩ = some (.int .i64 s.hp) := (unhide HV).cell rfl
  have hc8 : W7.cell? ⟨w.heap.size, 8, none⟩ = some (.int .i64 s.ap) := (unhide HV).cell rfl
  have hc9 : W7.cell? ⟨w.heap.size, 9, none⟩ = some (.slice a.hs s.hs.length a.nhs) := (unhide HV).cell rfl
  have hc10 : W7.cell? ⟨w.heap.size, 10, none⟩ = some (.slice a.as_ s.as_.length a.nas) := (unhide HV).cell rfl
  have hc11 : W7.cell? ⟨w.heap.size, 11, none⟩ = some (.slice a.hc s.hc.length a.nhc) := (unhide HV).cell rfl
  have hc12 : W7.cell? ⟨w.heap.size, 12, none⟩ = some (.slice a.ac s.ac.length a.nac) := (unhide HV).cell rfl
  cases b5
  case false =>
    go_wp2_with fail
    go_ret
    exact ⟨by rw [unhide HR]; rfl, unhide HB⟩
  have HC := hide (common_any s.hs s.as_ (incr_of_squad (unhide E5).symm) a.hs s.hs.length a.nhs rfl a.as_ s.as_.length a.nas rfl W7 ((unhide F1).keep (unhide HB)) ((unhide F2).keep (unhide HB)))
  rw [← unhide E6] at HC
  go_wp2_with fail
  refine (unhide HC).mono ?_; rintro x W8 ⟨rfl, hG⟩
  clear HC hc0 hc1 hc2 hc3 hc4 hc5 hc6 hc7 hc8 hc9 hc10 hc11 hc12
  have HV := hide ((unhide HV).keep hG); have HB := hide (thenB (unhide HB) hG)
  clear hG
  have hc0 : W8.cell? ⟨w.heap.size, 0, none⟩ = some (.int .i64 s.g.s) := (unhide HV).cell rfl
  have hc1 : W8.cell? ⟨w.heap.size, 1, none⟩ = some (.int .i64 s.g.c) := (unhide HV).cell rfl
  have hc2 : W8.cell? ⟨w.heap.size, 2, none⟩ = some (.int .i64 s.g.h) := (unhide HV).cell rfl
  have hc3 : W8.cell? ⟨w.heap.size, 3, none⟩ = some (.int .i64 s.g.a) := (unhide HV).cell rfl
  have hc4 : W8.cell? ⟨w.heap.size, 4, none⟩ = some (.int .i64 s.rf) := (unhide HV).cell rfl
  have hc5 : W8.cell? ⟨w.heap.size, 5, none⟩ = some (.int .i64 s.hg) := (unhide HV).cell rfl
  have hc6 : W8.cell? ⟨w.heap.size, 6, none⟩ = some (.int .i64 s.ag) := (unhide HV).cell rfl
  have hc7 : W8.cell? ⟨w.heap.size, 7, none⟩ = some (.int .i64 s.hp) := (unhide HV).cell rfl
  have hc8 : W8.cell? ⟨w.heap.size, 8, none⟩ = some (.int .i64 s.ap) := (unhide HV).cell rfl
  have hc9 : W8.cell? ⟨w.heap.size, 9, none⟩ = some (.slice a.hs s.hs.length a.nhs) := (unhide HV).cell rfl
  have hc10 : W8.cell? ⟨w.heap.size, 10, none⟩ = some (.slice a.as_ s.as_.length a.nas) := (unhide HV).cell rfl
  have hc11 : W8.cell? ⟨w.heap.size, 11, none⟩ = some (.slice a.hc s.hc.length a.nhc) := (unhide HV).cell rfl
  have hc12 : W8.cell? ⟨w.heap.size, 12, none⟩ = some (.slice a.ac s.ac.length a.nac) := (unhide HV).cell rfl
  cases b6
  case true =>
    go_wp2_with fail
    go_ret
    exact ⟨by rw [unhide HR]; rfl, unhide HB⟩
  have HC := hide (cards_any s.hc s.hs (incr_of_squad (unhide E4).symm) a.hc s.hc.length a.nhc rfl a.hs s.hs.length a.nhs rfl W8 ((unhide F3).keep (unhide HB)) ((unhide F1).keep (unhide HB)))
  rw [← unhide E7] at HC
  go_wp2_with fail
  refine (unhide HC).mono ?_; rintro x W9 ⟨rfl, hG⟩
  clear HC hc0 hc1 hc2 hc3 hc4 hc5 hc6 hc7 hc8 hc9 hc10 hc11 hc12
  have HV := hide ((unhide HV).keep hG); have HB := hide (thenB (unhide HB) hG)
  clear hG
  have hc0 : W9.cell? ⟨w.heap.size, 0, none⟩ = some (.int .i64 s.g.s) := (unhide HV).cell rfl
  have hc1 : W9.cell? ⟨w.heap.size, 1, none⟩ = some (.int .i64 s.g.c) := (unhide HV).cell rfl
  have hc2 : W9.cell? ⟨w.heap.size, 2, none⟩ = some (.int .i64 s.g.h) := (unhide HV).cell rfl
  have hc3 : W9.cell? ⟨w.heap.size, 3, none⟩ = some (.int .i64 s.g.a) := (unhide HV).cell rfl
  have hc4 : W9.cell? ⟨w.heap.size, 4, none⟩ = some (.int .i64 s.rf) := (unhide HV).cell rfl
  have hc5 : W9.cell? ⟨w.heap.size, 5, none⟩ = some (.int .i64 s.hg) := (unhide HV).cell rfl
  have hc6 : W9.cell? ⟨w.heap.size, 6, none⟩ = some (.int .i64 s.ag) := (unhide HV).cell rfl
  have hc7 : W9.cell? ⟨w.heap.size, 7, none⟩ = some (.int .i64 s.hp) := (unhide HV).cell rfl
  have hc8 : W9.cell? ⟨w.heap.size, 8, none⟩ = some (.int .i64 s.ap) := (unhide HV).cell rfl
  have hc9 : W9.cell? ⟨w.heap.size, 9, none⟩ = some (.slice a.hs s.hs.length a.nhs) := (unhide HV).cell rfl
  have hc10 : W9.cell? ⟨w.heap.size, 10, none⟩ = some (.slice a.as_ s.as_.length a.nas) := (unhide HV).cell rfl
  have hc11 : W9.cell? ⟨w.heap.size, 11, none⟩ = some (.slice a.hc s.hc.length a.nhc) := (unhide HV).cell rfl
  have hc12 : W9.cell? ⟨w.heap.size, 12, none⟩ = some (.slice a.ac s.ac.length a.nac) := (unhide HV).cell rfl
  cases b7
  case false =>
    go_wp2_with fail
    go_ret
    exact ⟨by rw [unhide HR]; rfl, unhide HB⟩
  have HC := hide (cards_any s.ac s.as_ (incr_of_squad (unhide E5).symm) a.ac s.ac.length a.nac rfl a.as_ s.as_.length a.nas rfl W9 ((unhide F4).keep (unhide HB)) ((unhide F2).keep (unhide HB)))
  rw [← unhide E8] at HC
  go_wp2_with fail
  refine (unhide HC).mono ?_; rintro x W10 ⟨rfl, hG⟩
  clear HC hc0 hc1 hc2 hc3 hc4 hc5 hc6 hc7 hc8 hc9 hc10 hc11 hc12
  have HV := hide ((unhide HV).keep hG); have HB := hide (thenB (unhide HB) hG)
  clear hG
  go_wp2_with fail
  go_ret
  exact ⟨by rw [unhide HR]; cases b8 <;> rfl, unhide HB⟩
end Go.Proofs.YtdmaopfaeigelaaGreatDoor
