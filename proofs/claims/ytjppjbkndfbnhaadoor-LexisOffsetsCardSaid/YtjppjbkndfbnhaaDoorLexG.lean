/- Contracts over the program of lexis: the scanner takes what comes next. -/
import Derived.Test.YtjppjbkndfbnhaaDoorLexF
namespace Go.Proofs.YtjppjbkndfbnhaaDoor
set_option linter.unusedSimpArgs false
set_option linter.unusedVariables false
open Go.RowKit

theorem TakeIs.from {b : Nat} {s : ByteArray} {k n : Nat} {x : Nat × List Lx.B × Nat} {w : World} {e : Ending} {w' : World} (h : TakeIs b s k x (w.drewN n) e w') : TakeIs b s k x w e w' := by
  obtain ⟨t, un, h1, h2, h3, h4, h5, h6⟩ := h
  exact ⟨t, un, h1, h2, h3, h4, h5, ((But.refl b w).drewN n).trans h6⟩
theorem ext_head (s : ByteArray) (k : Nat) (hk : k < s.size) (h : 0 < (s.extract k s.size).size) : (s.extract k s.size)[0] = s[k] := by
  rw [ByteArray.getElem_extract]
  simp
set_option maxRecDepth 100000 in
set_option maxHeartbeats 4000000 in
theorem take_any (b : Nat) (s : ByteArray) (k un : Nat) (w : World) (h : Sc w b s k un) (hK : Kn s k un) (hun : un ≤ s.size) (hk : k ≤ s.size) (hs : s.size ≤ 1000000) (hT : Tab w) (hne : 0 ≠ b) :
    Calls Tryd.prog 26 #[.pointer (some ⟨b, 0, none⟩)] w (TakeIs b s k (Lx.tok1 ((L s).drop k)) w) := by
  have H0 := hide h
  have HT := hide hT
  have HNE := hide hne
  obtain ⟨c0, c1, c2, f1, f2, hlt⟩ := h
  by_cases hks : k = s.size
  · subst hks
    rw [List.drop_of_length_le (by rw [L_len]; exact Nat.le_refl _)]
    have dks : ((s.size : Int) == (s.size : Int)) = true := by simp
    clear hT hne
    go_enter Tryd.func26, Tryd.ntmps26
    go_wp2_with fail
    go_quiet (fail)
    go_wp2_with fail
    go_ret2
    exact ⟨_, un, rfl, fun _ => rfl, (unhide H0).drewN _, hK, hun, (But.refl _ _).drewN _⟩
  have hlt2 : k < s.size := by omega
  have dks : ((k : Int) == (s.size : Int)) = false := by rw [beq_eq_false_iff_ne]; omega
  have hd := L_drop s k hlt2
  have hlen : 0 < (s.extract k s.size).size := by rw [ByteArray.size_extract]; omega
  have hh := ext_head s k hlt2 hlen
  have hcl := fun W (hW : Tab W) => classOf_any ((s.extract k s.size)[0]'hlen) W hW
  rw [show Lx.cls ((s.extract k s.size)[0]'hlen) = Lx.cls s[k] by rw [hh]] at hcl
  have hcb := cls_lt s[k]
  have HA := hide (fun W un (hW : Sc W b s k un) (n : Nat) (hn : k + n ≤ s.size) => advance_any b s k n un W hW hn hs)
  have hx1 : (s.extract k s.size).size ≤ 140737488351232 := by rw [ByteArray.size_extract]; omega
  clear hT hne hh
  by_cases h1 : Lx.cls s[k] = 1
  · rw [hd, Lx.tok_let h1, ← hd]
    have hsp := fun W (hW : Tab W) => span_inn (s.extract k s.size) W hW hx1
    rw [L_tail] at hsp
    have hle := Lx.spanN_le Lx.isInn ((L s).drop k)
    rw [List.length_drop, L_len] at hle
    have hex := ext_take s k (Lx.spanN Lx.isInn ((L s).drop k))
    generalize Lx.spanN Lx.isInn ((L s).drop k) = n at hsp hle hex
    rw [h1] at hcl
    have HC := hide hcl; have HSP := hide hsp; have HEX := hide hex
    clear hcl hsp hex h1 hd
    go_enter Tryd.func26, Tryd.ntmps26
    go_wp2_with fail
    go_quiet (fail)
    go_wp2_with fail
    go_quiet (fail)
    go_wp2_with fail
    refine ((unhide HC) _ ((unhide HT).drewN _)).mono ?_; rintro e w' ⟨rfl, rfl⟩
    go_wp2_with fail
    refine ((unhide HSP) _ ((unhide HT).drewN _)).mono ?_; rintro e w' ⟨rfl, rfl⟩
    go_wp2_with fail
    refine ((unhide HA) _ _ ((unhide H0).drewN _) n (by omega)).mono ?_; rintro e w' ⟨rfl, hs1, hb1⟩
    have HS1 := hide hs1
    have HB1 := hide (((But.refl _ _).drewN _).trans hb1)
    clear hs1 hb1
    go_wp2_with fail
    go_ret2
    exact ⟨_, un, rfl, fun _ => unhide HEX, unhide HS1, hK.mono (by omega), hun, unhide HB1⟩
  have n1 : ((Lx.cls s[k] : Int) == 1) = false := by rw [beq_eq_false_iff_ne]; omega
  by_cases h32 : Lx.cls s[k] = 32
  · rw [hd, Lx.tok_sign h32, ← hd]
    have hsp := fun W (hW : Tab W) => signLen_any (s.extract k s.size) W hW
    rw [L_tail] at hsp
    have hll : ((L s).drop k).length = (s.extract k s.size).size := by rw [← L_len, L_tail]
    rw [hll]
    obtain ⟨n, hn⟩ : ∃ n : Nat, n = if (decide (1 < (s.extract k s.size).size) && Lx.sgnP (((L s).drop k).take 2)) = true then 2 else 1 := ⟨_, rfl⟩
    have hn2 : (n : Int) = if (decide (1 < (s.extract k s.size).size) && Lx.sgnP (((L s).drop k).take 2)) = true then 2 else 1 := by rw [hn]; split <;> rfl
    rw [← hn]
    rw [← hn2] at hsp
    have hle : n ≤ s.size - k := by
      have hxs : (s.extract k s.size).size = s.size - k := by rw [ByteArray.size_extract]; omega
      rw [hn]
      split
      · rename_i hc; rw [Bool.and_eq_true] at hc; have := of_decide_eq_true hc.1; omega
      · omega
    have hex := ext_take s k n
    rw [h32] at hcl
    have HC := hide hcl; have HSP := hide hsp; have HEX := hide hex
    clear hcl hsp hex h1 h32 n1 hd hn hn2 hll
    go_enter Tryd.func26, Tryd.ntmps26
    go_wp2_with fail
    go_quiet (fail)
    go_wp2_with fail
    go_quiet (fail)
    go_wp2_with fail
    refine ((unhide HC) _ ((unhide HT).drewN _)).mono ?_; rintro e w' ⟨rfl, rfl⟩
    go_wp2_with fail
    refine ((unhide HSP) _ ((unhide HT).drewN _)).mono ?_; rintro e w' ⟨rfl, rfl⟩
    go_wp2_with fail
    refine ((unhide HA) _ _ ((unhide H0).drewN _) n (by omega)).mono ?_; rintro e w' ⟨rfl, hs1, hb1⟩
    have HS1 := hide hs1
    have HB1 := hide (((But.refl _ _).drewN _).trans hb1)
    clear hs1 hb1
    go_wp2_with fail
    go_ret2
    exact ⟨_, un, rfl, fun _ => unhide HEX, unhide HS1, hK.mono (by omega), hun, unhide HB1⟩
  have n32 : ((Lx.cls s[k] : Int) == 32) = false := by rw [beq_eq_false_iff_ne]; omega
  by_cases h28 : Lx.cls s[k] = 2 ∨ Lx.cls s[k] = 8
  · have hI := fun W (hS : Sc W b s k un) (hW : Tab W) => takeInt_any b s k un W hS hK hun hlt2 hs hW (unhide HNE) h28
    generalize Lx.tok1 ((L s).drop k) = x at hI ⊢
    have HI := hide hI
    rcases h28 with h2 | h8
    · rw [h2] at hcl
      have HC := hide hcl
      clear hcl h1 h32 n1 n32 hd hI h2
      go_enter Tryd.func26, Tryd.ntmps26
      go_wp2_with fail
      go_quiet (fail)
      go_wp2_with fail
      go_quiet (fail)
      go_wp2_with fail
      refine ((unhide HC) _ ((unhide HT).drewN _)).mono ?_; rintro e w' ⟨rfl, rfl⟩
      go_wp2_with fail
      refine ((unhide HI) _ ((unhide H0).drewN _) ((unhide HT).drewN _)).mono ?_; rintro e w' ⟨t, un', rfl, ht, hs1, hk1, hu1, hb1⟩
      have HR := hide (⟨t, un', rfl, ht, hs1, hk1, hu1, ((But.refl _ _).drewN _).trans hb1⟩ : TakeIs b s k x w _ w')
      clear ht hs1 hk1 hu1 hb1
      go_wp2_with fail
      go_ret2
      exact unhide HR
    · rw [h8] at hcl
      have HC := hide hcl
      clear hcl h1 h32 n1 n32 hd hI h8
      go_enter Tryd.func26, Tryd.ntmps26
      go_wp2_with fail
      go_quiet (fail)
      go_wp2_with fail
      go_quiet (fail)
      go_wp2_with fail
      refine ((unhide HC) _ ((unhide HT).drewN _)).mono ?_; rintro e w' ⟨rfl, rfl⟩
      go_wp2_with fail
      refine ((unhide HI) _ ((unhide H0).drewN _) ((unhide HT).drewN _)).mono ?_; rintro e w' ⟨t, un', rfl, ht, hs1, hk1, hu1, hb1⟩
      have HR := hide (⟨t, un', rfl, ht, hs1, hk1, hu1, ((But.refl _ _).drewN _).trans hb1⟩ : TakeIs b s k x w _ w')
      clear ht hs1 hk1 hu1 hb1
      go_wp2_with fail
      go_ret2
      exact unhide HR
  have n2 : ((Lx.cls s[k] : Int) == 2) = false := by rw [beq_eq_false_iff_ne]; omega
  have n8 : ((Lx.cls s[k] : Int) == 8) = false := by rw [beq_eq_false_iff_ne]; omega
  by_cases h16 : Lx.cls s[k] = 16
  · have hI := fun W (hS : Sc W b s k un) => takeText_any b s k un W hS hK hun hlt2 hs ((Lx.c34 _).2 h16)
    generalize Lx.tok1 ((L s).drop k) = x at hI ⊢
    have HI := hide hI
    rw [h16] at hcl
    have HC := hide hcl
    clear hcl h1 h32 n1 n32 hd hI h28 n2 n8 h16
    go_enter Tryd.func26, Tryd.ntmps26
    go_wp2_with fail
    go_quiet (fail)
    go_wp2_with fail
    go_quiet (fail)
    go_wp2_with fail
    refine ((unhide HC) _ ((unhide HT).drewN _)).mono ?_; rintro e w' ⟨rfl, rfl⟩
    go_wp2_with fail
    refine ((unhide HI) _ ((unhide H0).drewN _)).mono ?_; rintro e w' ⟨t, un', rfl, ht, hs1, hk1, hu1, hb1⟩
    have HR := hide (⟨t, un', rfl, ht, hs1, hk1, hu1, ((But.refl _ _).drewN _).trans hb1⟩ : TakeIs b s k x w _ w')
    clear ht hs1 hk1 hu1 hb1
    go_wp2_with fail
    go_ret2
    exact unhide HR
  have n16 : ((Lx.cls s[k] : Int) == 16) = false := by rw [beq_eq_false_iff_ne]; omega
  rw [hd, Lx.tok_other h1 (fun e => h28 (.inl e)) (fun e => h28 (.inr e)) h16 h32]
  have HC := hide hcl
  clear hcl h1 h32 hd h28 h16
  go_enter Tryd.func26, Tryd.ntmps26
  go_wp2_with fail
  go_quiet (fail)
  go_wp2_with fail
  go_quiet (fail)
  go_wp2_with fail
  refine ((unhide HC) _ ((unhide HT).drewN _)).mono ?_; rintro e w' ⟨rfl, rfl⟩
  go_wp2_with fail
  refine ((unhide HA) _ _ ((unhide H0).drewN _) 1 (by omega)).mono ?_; rintro e w' ⟨rfl, hs1, hb1⟩
  have HS1 := hide hs1
  have HB1 := hide (((But.refl _ _).drewN _).trans hb1)
  clear hs1 hb1
  go_wp2_with fail
  go_ret2
  exact ⟨_, un, rfl, fun h => absurd rfl h, unhide HS1, hK.mono (by omega), hun, unhide HB1⟩
end Go.Proofs.YtjppjbkndfbnhaaDoor
