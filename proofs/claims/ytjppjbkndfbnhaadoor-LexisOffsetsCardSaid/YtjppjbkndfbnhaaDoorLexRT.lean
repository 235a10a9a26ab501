/- Contracts over the program of lexis: the reference's token. -/
import Derived.Test.YtjppjbkndfbnhaaDoorLexRB
import Derived.Test.YtjppjbkndfbnhaaDoorLexTok
namespace Lx
theorem tok_numR {c : B} {r : List B} (h1 : isLet c = false) (h : (isDig c || (c == 45 && nxD r)) = true) :
    tok1 (c :: r) = if intP ((c :: r).take (spanN isInn r + 1)) = true then (2, (c :: r).take (spanN isInn r + 1), spanN isInn r + 1) else (0, [], spanN isInn r + 1) := by
  show tokC c r = _
  unfold tokC
  rw [if_neg (by rw [h1]; decide), if_pos h, List.take_succ_cons, ← takeWhile_eq_take]
theorem sgn_one (c : B) : sgnP [c] = isSg1 c := by unfold sgnP; simp
theorem sgn_two {c : B} (r : List B) (h : cls c ≠ 32) : sgnP ((c :: r).take 2) = false := by
  have h1 : isSg1 c = false := by rw [Bool.eq_false_iff]; exact fun e => h ((isSg1_of c).1 e)
  have h60 : c ≠ 60 := fun e => h (by rw [e]; rfl)
  have h62 : c ≠ 62 := fun e => h (by rw [e]; rfl)
  cases r with
  | nil => show sgnP [c] = false; rw [sgn_one, h1]
  | cons d s =>
    show sgnP [c, d] = false
    unfold sgnP
    simp [h60, h62]
end Lx
namespace Go.Proofs.YtjppjbkndfbnhaaDoor
set_option linter.unusedSimpArgs false
set_option linter.unusedVariables false
open Go.RowKit

/-- how the reference's token ends -/
def RTok (k : Nat) (x : Nat × List Lx.B × Nat) (w : World) (e : Ending) (w' : World) : Prop :=
  ∃ t : Lx.Tk, e = .returned (.tuple #[tkV t, .int .i64 (x.2.2 : Int)]) ∧ (x.1 ≠ 0 → t = ⟨(x.1 : Int), ⟨x.2.1.toArray⟩, (k : Int)⟩) ∧ (x.1 = 0 → t.k = 0) ∧ Below w.heap.size w w'
theorem src_sub {w : World} {b o : Nat} {s : ByteArray} (h : Src w (some ⟨b, o, none⟩) s) (k d : Nat) (hk : k + d ≤ s.size) (c : Nat) :
    (convert 22 9 (.slice (some ⟨b, o + k, none⟩) d c)).run Tryd.prog w = .ok (.string (s.extract k (k + d))) w := by
  have h2 := ((h.tail k (by omega)).take d).conv d c (by rw [ByteArray.size_extract, ByteArray.size_extract]; omega)
  rw [h2]
  congr 2
  exact L_eq (by rw [L_extract, L_tail, List.drop_zero, L_extract, List.drop_take, Nat.add_sub_cancel_left])
theorem span_more {s : ByteArray} {m : Nat} (hm : m < s.size) (h : Lx.isInn s[m] = true) : m + Lx.spanN Lx.isInn ((L s).drop m) = (m + 1) + Lx.spanN Lx.isInn ((L s).drop (m + 1)) := by
  rw [L_drop s m hm, Lx.spanN_cons_pos h]
  omega
theorem span_done {s : ByteArray} {m : Nat} (hm : m < s.size) (h : Lx.isInn s[m] = false) : m + Lx.spanN Lx.isInn ((L s).drop m) = m := by
  rw [L_drop s m hm, Lx.spanN_cons_neg (by rw [h]; decide)]
  rfl
theorem span_end {s : ByteArray} {m : Nat} (hm : s.size ≤ m) : m + Lx.spanN Lx.isInn ((L s).drop m) = m := by
  rw [List.drop_of_length_le (by rw [L_len]; exact hm)]
  rfl
/- What follows is written by wip/tools/gen_lexrt.py. -/
set_option maxRecDepth 100000 in
set_option maxHeartbeats 8000000 in
theorem rtoken_word (b o n c k : Nat) (s : ByteArray) (w : World) (hn : s.size = n) (hS : Src w (some ⟨b, o, none⟩) s) (hk : k < n) (hl : n ≤ 1000000) (hc : n ≤ c)
    (hks : k < s.size) (h1 : Lx.cls s[k] = 1) :
    Calls Tryd.prog 28 #[.slice (some ⟨b, o, none⟩) n c, .int .i64 (k : Int)] w (RTok k (Lx.tok1 ((L s).drop k)) w) := by
  have hb0 := (Below.refl w.heap.size w).alloc (Nat.le_refl _) (.cells #[.int .i64 0, .string ⟨#[]⟩, .int .i64 0] 41)
  have hS1 := hS.keep hb0
  obtain ⟨b', o', e', hlt, hcl⟩ := hS.cell (by omega)
  obtain ⟨rfl, rfl⟩ : b = b' ∧ o = o' := by injection e' with e'; injection e' with e1 e2 e3; exact ⟨e1, e2⟩
  have hck := (cell_block (hb0.block b hlt)).trans (hcl k hks)
  have hx := Lx.tok_let (r := (L s).drop (k + 1)) h1
  rw [← L_drop s k hks] at hx
  rw [hx]
  have hle := Lx.spanN_le Lx.isInn ((L s).drop k)
  rw [List.length_drop, L_len] at hle
  have hex := ext_take s k (Lx.spanN Lx.isInn ((L s).drop k))
  generalize hE : Lx.spanN Lx.isInn ((L s).drop k) = E at hle hex ⊢
  have hcv := src_sub hS1 k E (by omega)
  have hle' : k + E ≤ n := by omega
  rw [hex] at hcv
  have hrl := fun W => rlet_any s[k] W
  rw [(Lx.isLet_of s[k]).2 h1] at hrl
  have HRL := hide hrl; have HE := hide hE; have HN := hide hn; have HCV := hide hcv; have HCL := hide hcl; have HB0 := hide hb0
  clear hrl hE hn hcv hS hS1 hcl hx hex h1 e' hb0 hle
  go_enter Tryd.func28, Tryd.ntmps28
  go_wp2_with fail
  refine ((unhide HRL) _).mono ?_; rintro e wx ⟨rfl, rfl⟩
  go_wp2_with fail
  go_loop [7] (fun i => ∃ m : Nat, k ≤ m ∧ m ≤ n ∧ m + Lx.spanN Lx.isInn ((L s).drop m) = k + E ∧ i = .int .i64 (m : Int)) (fun i => n - (intOf i).toNat)
  case atStart => exact ⟨k, Nat.le_refl _, by omega, by rw [unhide HE], rfl⟩
  case round =>
    obtain ⟨m, hm1, hm2, hmE, rfl⟩ := hrel
    have HME := hide hmE
    clear hmE
    by_cases hlm : m < n
    · have hms : m < s.size := by have := unhide HN; omega
      have hcm := (cell_block ((unhide HB0).block b hlt)).trans ((unhide HCL) m hms)
      have hri := fun W => rinn_any s[m] W
      cases hin : Lx.isInn s[m]
      · rw [hin] at hri
        have HRI := hide hri
        have hmk : m = k + E := by have := unhide HME; rw [span_done hms hin] at this; exact this
        have hcv := unhide HCV
        clear hri hin
        subst hmk
        go_wp2_with fail
        refine ((unhide HRI) _).mono ?_; rintro e wx ⟨rfl, rfl⟩
        go_wp2_with fail
        exact bodyPost_ret (v := .tuple #[tkV ⟨1, ⟨(((L s).drop k).take E).toArray⟩, (k : Int)⟩, .int .i64 ((E : Nat) : Int)]) (by simp [results, Tryd.results28, go_sem] <;> omega) rfl ⟨⟨1, ⟨(((L s).drop k).take E).toArray⟩, (k : Int)⟩, rfl, fun _ => rfl, fun h => by simp at h, (Below.refl _ _).alloc (Nat.le_refl _) _⟩
      · rw [hin] at hri
        have HRI := hide hri
        have HNX := hide ((span_more hms hin).symm.trans (unhide HME))
        clear hri hin
        go_wp2_with fail
        refine ((unhide HRI) _).mono ?_; rintro e wx ⟨rfl, rfl⟩
        go_wp2_with fail
        go_round
        case rel => exact ⟨m + 1, by omega, by omega, unhide HNX, by go_num⟩
        case measure => simp [intOf]; omega
    · have hmk : m = k + E := by have := unhide HME; rw [span_end (by have := unhide HN; omega)] at this; exact this
      have hcv := unhide HCV
      subst hmk
      go_wp2_with fail
      exact bodyPost_ret (v := .tuple #[tkV ⟨1, ⟨(((L s).drop k).take E).toArray⟩, (k : Int)⟩, .int .i64 ((E : Nat) : Int)]) (by simp [results, Tryd.results28, go_sem] <;> omega) rfl ⟨⟨1, ⟨(((L s).drop k).take E).toArray⟩, (k : Int)⟩, rfl, fun _ => rfl, fun h => by simp at h, (Below.refl _ _).alloc (Nat.le_refl _) _⟩
set_option maxRecDepth 100000 in
set_option maxHeartbeats 8000000 in
theorem rtoken_dig (b o n c k : Nat) (s : ByteArray) (w : World) (hn : s.size = n) (hS : Src w (some ⟨b, o, none⟩) s) (hk : k < n) (hl : n ≤ 1000000) (hc : n ≤ c)
    (hks : k < s.size) (hlet : Lx.isLet s[k] = false) (hdig : Lx.isDig s[k] = true) (hnum : (Lx.isDig s[k] || (s[k] == 45 && Lx.nxD ((L s).drop (k + 1)))) = true) :
    Calls Tryd.prog 28 #[.slice (some ⟨b, o, none⟩) n c, .int .i64 (k : Int)] w (RTok k (Lx.tok1 ((L s).drop k)) w) := by
  have hb0 := (Below.refl w.heap.size w).alloc (Nat.le_refl _) (.cells #[.int .i64 0, .string ⟨#[]⟩, .int .i64 0] 41)
  have hS1 := hS.keep hb0
  obtain ⟨b', o', e', hlt, hcl⟩ := hS.cell (by omega)
  obtain ⟨rfl, rfl⟩ : b = b' ∧ o = o' := by injection e' with e'; injection e' with e1 e2 e3; exact ⟨e1, e2⟩
  have hck := (cell_block (hb0.block b hlt)).trans (hcl k hks)
  have hx := Lx.tok_numR (r := (L s).drop (k + 1)) hlet hnum
  rw [← L_drop s k hks] at hx
  have hle := Lx.spanN_le Lx.isInn ((L s).drop (k + 1))
  rw [List.length_drop, L_len] at hle
  obtain ⟨E, hE⟩ : ∃ E, Lx.spanN Lx.isInn ((L s).drop (k + 1)) + 1 = E := ⟨_, rfl⟩
  rw [hE] at hx
  have hE1 : (k + 1) + Lx.spanN Lx.isInn ((L s).drop (k + 1)) = k + E := by omega
  have hcv := src_sub hS1 k E (by omega)
  have hle' : k + E ≤ n := by omega
  have hk1 : k + 1 ≤ n := by omega
  rw [ext_take s k E] at hcv
  have hrl := fun W => rlet_any s[k] W
  rw [hlet] at hrl
  have hrd := fun W => rdig_any s[k] W
  rw [hdig] at hrd
  have hi := fun W => rint_any ⟨(((L s).drop k).take E).toArray⟩ W (by show (((L s).drop k).take E).toArray.size ≤ _; rw [List.size_toArray]; have := List.length_take_le E ((L s).drop k); omega)
  rw [L_mk] at hi
  cases hb : Lx.intP (((L s).drop k).take E)
  · rw [hb, if_neg (by decide)] at hx
    rw [hb] at hi
    rw [hx]
    have HRL := hide hrl; have HRD := hide hrd; have HI := hide hi; have HE := hide hE1; have HN := hide hn; have HCV := hide hcv; have HCL := hide hcl; have HB0 := hide hb0
    clear hrl hrd hi hE hE1 hn hcv hS hS1 hcl hx hlet hnum hdig hb e' hb0 hle
    go_enter Tryd.func28, Tryd.ntmps28
    go_wp2_with fail
    refine ((unhide HRL) _).mono ?_; rintro e wx ⟨rfl, rfl⟩
    go_wp2_with fail
    refine ((unhide HRD) _).mono ?_; rintro e wx ⟨rfl, rfl⟩
    go_wp2_with fail
    go_loop [7] (fun i => ∃ m : Nat, k ≤ m ∧ m ≤ n ∧ m + Lx.spanN Lx.isInn ((L s).drop m) = k + E ∧ i = .int .i64 (m : Int)) (fun i => n - (intOf i).toNat)
    case atStart => exact ⟨k + 1, by omega, hk1, unhide HE, by go_num⟩
    case round =>
      obtain ⟨m, hm1, hm2, hmE, rfl⟩ := hrel
      have HME := hide hmE
      clear hmE
      by_cases hlm : m < n
      · have hms : m < s.size := by have := unhide HN; omega
        have hcm := (cell_block ((unhide HB0).block b hlt)).trans ((unhide HCL) m hms)
        have hri := fun W => rinn_any s[m] W
        cases hin : Lx.isInn s[m]
        · rw [hin] at hri
          have HRI := hide hri
          have hmk : m = k + E := by have := unhide HME; rw [span_done hms hin] at this; exact this
          have hcv := unhide HCV
          clear hri hin
          subst hmk
          go_wp2_with fail
          refine ((unhide HRI) _).mono ?_; rintro e wx ⟨rfl, rfl⟩
          go_wp2_with fail
          refine ((unhide HI) _).mono ?_; rintro e wx ⟨rfl, rfl⟩
          go_wp2_with fail
          exact bodyPost_ret (v := .tuple #[tkV ⟨0, ⟨#[]⟩, 0⟩, .int .i64 ((E : Nat) : Int)]) (by simp [results, Tryd.results28, go_sem] <;> omega) rfl ⟨⟨0, ⟨#[]⟩, 0⟩, rfl, fun h => absurd rfl h, fun _ => rfl, (Below.refl _ _).alloc (Nat.le_refl _) _⟩
        · rw [hin] at hri
          have HRI := hide hri
          have HNX := hide ((span_more hms hin).symm.trans (unhide HME))
          clear hri hin
          go_wp2_with fail
          refine ((unhide HRI) _).mono ?_; rintro e wx ⟨rfl, rfl⟩
          go_wp2_with fail
          go_round
          case rel => exact ⟨m + 1, by omega, by omega, unhide HNX, by go_num⟩
          case measure => simp [intOf]; omega
      · have hmk : m = k + E := by have := unhide HME; rw [span_end (by have := unhide HN; omega)] at this; exact this
        have hcv := unhide HCV
        subst hmk
        go_wp2_with fail
        refine ((unhide HI) _).mono ?_; rintro e wx ⟨rfl, rfl⟩
        go_wp2_with fail
        exact bodyPost_ret (v := .tuple #[tkV ⟨0, ⟨#[]⟩, 0⟩, .int .i64 ((E : Nat) : Int)]) (by simp [results, Tryd.results28, go_sem] <;> omega) rfl ⟨⟨0, ⟨#[]⟩, 0⟩, rfl, fun h => absurd rfl h, fun _ => rfl, (Below.refl _ _).alloc (Nat.le_refl _) _⟩
  · rw [hb, if_pos rfl] at hx
    rw [hb] at hi
    rw [hx]
    have HRL := hide hrl; have HRD := hide hrd; have HI := hide hi; have HE := hide hE1; have HN := hide hn; have HCV := hide hcv; have HCL := hide hcl; have HB0 := hide hb0
    clear hrl hrd hi hE hE1 hn hcv hS hS1 hcl hx hlet hnum hdig hb e' hb0 hle
    go_enter Tryd.func28, Tryd.ntmps28
    go_wp2_with fail
    refine ((unhide HRL) _).mono ?_; rintro e wx ⟨rfl, rfl⟩
    go_wp2_with fail
    refine ((unhide HRD) _).mono ?_; rintro e wx ⟨rfl, rfl⟩
    go_wp2_with fail
    go_loop [7] (fun i => ∃ m : Nat, k ≤ m ∧ m ≤ n ∧ m + Lx.spanN Lx.isInn ((L s).drop m) = k + E ∧ i = .int .i64 (m : Int)) (fun i => n - (intOf i).toNat)
    case atStart => exact ⟨k + 1, by omega, hk1, unhide HE, by go_num⟩
    case round =>
      obtain ⟨m, hm1, hm2, hmE, rfl⟩ := hrel
      have HME := hide hmE
      clear hmE
      by_cases hlm : m < n
      · have hms : m < s.size := by have := unhide HN; omega
        have hcm := (cell_block ((unhide HB0).block b hlt)).trans ((unhide HCL) m hms)
        have hri := fun W => rinn_any s[m] W
        cases hin : Lx.isInn s[m]
        · rw [hin] at hri
          have HRI := hide hri
          have hmk : m = k + E := by have := unhide HME; rw [span_done hms hin] at this; exact this
          have hcv := unhide HCV
          clear hri hin
          subst hmk
          go_wp2_with fail
          refine ((unhide HRI) _).mono ?_; rintro e wx ⟨rfl, rfl⟩
          go_wp2_with fail
          refine ((unhide HI) _).mono ?_; rintro e wx ⟨rfl, rfl⟩
          go_wp2_with fail
          exact bodyPost_ret (v := .tuple #[tkV ⟨2, ⟨(((L s).drop k).take E).toArray⟩, (k : Int)⟩, .int .i64 ((E : Nat) : Int)]) (by simp [results, Tryd.results28, go_sem] <;> omega) rfl ⟨⟨2, ⟨(((L s).drop k).take E).toArray⟩, (k : Int)⟩, rfl, fun _ => rfl, fun h => by simp at h, (Below.refl _ _).alloc (Nat.le_refl _) _⟩
        · rw [hin] at hri
          have HRI := hide hri
          have HNX := hide ((span_more hms hin).symm.trans (unhide HME))
          clear hri hin
          go_wp2_with fail
          refine ((unhide HRI) _).mono ?_; rintro e wx ⟨rfl, rfl⟩
          go_wp2_with fail
          go_round
          case rel => exact ⟨m + 1, by omega, by omega, unhide HNX, by go_num⟩
          case measure => simp [intOf]; omega
      · have hmk : m = k + E := by have := unhide HME; rw [span_end (by have := unhide HN; omega)] at this; exact this
        have hcv := unhide HCV
        subst hmk
        go_wp2_with fail
        refine ((unhide HI) _).mono ?_; rintro e wx ⟨rfl, rfl⟩
        go_wp2_with fail
        exact bodyPost_ret (v := .tuple #[tkV ⟨2, ⟨(((L s).drop k).take E).toArray⟩, (k : Int)⟩, .int .i64 ((E : Nat) : Int)]) (by simp [results, Tryd.results28, go_sem] <;> omega) rfl ⟨⟨2, ⟨(((L s).drop k).take E).toArray⟩, (k : Int)⟩, rfl, fun _ => rfl, fun h => by simp at h, (Below.refl _ _).alloc (Nat.le_refl _) _⟩
set_option maxRecDepth 100000 in
set_option maxHeartbeats 8000000 in
theorem rtoken_neg (b o n c k : Nat) (s : ByteArray) (w : World) (hn : s.size = n) (hS : Src w (some ⟨b, o, none⟩) s) (hk : k < n) (hl : n ≤ 1000000) (hc : n ≤ c)
    (hks : k < s.size) (hlet : Lx.isLet s[k] = false) (hdig : Lx.isDig s[k] = false) (h45 : s[k] = 45) (hk2 : k + 1 < s.size) (hdig2 : Lx.isDig s[k + 1] = true) (hnum : (Lx.isDig s[k] || (s[k] == 45 && Lx.nxD ((L s).drop (k + 1)))) = true) :
    Calls Tryd.prog 28 #[.slice (some ⟨b, o, none⟩) n c, .int .i64 (k : Int)] w (RTok k (Lx.tok1 ((L s).drop k)) w) := by
  have hb0 := (Below.refl w.heap.size w).alloc (Nat.le_refl _) (.cells #[.int .i64 0, .string ⟨#[]⟩, .int .i64 0] 41)
  have hS1 := hS.keep hb0
  obtain ⟨b', o', e', hlt, hcl⟩ := hS.cell (by omega)
  obtain ⟨rfl, rfl⟩ : b = b' ∧ o = o' := by injection e' with e'; injection e' with e1 e2 e3; exact ⟨e1, e2⟩
  have hck := (cell_block (hb0.block b hlt)).trans (hcl k hks)
  have hx := Lx.tok_numR (r := (L s).drop (k + 1)) hlet hnum
  rw [← L_drop s k hks] at hx
  have hle := Lx.spanN_le Lx.isInn ((L s).drop (k + 1))
  rw [List.length_drop, L_len] at hle
  obtain ⟨E, hE⟩ : ∃ E, Lx.spanN Lx.isInn ((L s).drop (k + 1)) + 1 = E := ⟨_, rfl⟩
  rw [hE] at hx
  have hE1 : (k + 1) + Lx.spanN Lx.isInn ((L s).drop (k + 1)) = k + E := by omega
  have hcv := src_sub hS1 k E (by omega)
  have hle' : k + E ≤ n := by omega
  have hk1 : k + 1 ≤ n := by omega
  rw [ext_take s k E] at hcv
  have hrl := fun W => rlet_any s[k] W
  rw [hlet] at hrl
  have hrd := fun W => rdig_any s[k] W
  rw [hdig] at hrd
  have hi := fun W => rint_any ⟨(((L s).drop k).take E).toArray⟩ W (by show (((L s).drop k).take E).toArray.size ≤ _; rw [List.size_toArray]; have := List.length_take_le E ((L s).drop k); omega)
  rw [L_mk] at hi
  have hck2 := (cell_block (hb0.block b hlt)).trans (hcl (k + 1) (by omega))
  have h45n : ((s[k].toNat : Int) == 45) = true := by rw [h45]; rfl
  have hlt1 : (k : Int) + 1 < (n : Int) := by omega
  have hrd2 := fun W => rdig_any (s[k + 1]'(by omega)) W
  rw [hdig2] at hrd2
  have HRD2 := hide hrd2
  clear hrd2 hdig2 h45
  cases hb : Lx.intP (((L s).drop k).take E)
  · rw [hb, if_neg (by decide)] at hx
    rw [hb] at hi
    rw [hx]
    have HRL := hide hrl; have HRD := hide hrd; have HI := hide hi; have HE := hide hE1; have HN := hide hn; have HCV := hide hcv; have HCL := hide hcl; have HB0 := hide hb0
    clear hrl hrd hi hE hE1 hn hcv hS hS1 hcl hx hlet hnum hdig hb e' hb0 hle
    go_enter Tryd.func28, Tryd.ntmps28
    go_wp2_with fail
    refine ((unhide HRL) _).mono ?_; rintro e wx ⟨rfl, rfl⟩
    go_wp2_with fail
    refine ((unhide HRD) _).mono ?_; rintro e wx ⟨rfl, rfl⟩
    go_wp2_with fail
    refine ((unhide HRD2) _).mono ?_; rintro e wx ⟨rfl, rfl⟩
    go_wp2_with fail
    go_loop [7] (fun i => ∃ m : Nat, k ≤ m ∧ m ≤ n ∧ m + Lx.spanN Lx.isInn ((L s).drop m) = k + E ∧ i = .int .i64 (m : Int)) (fun i => n - (intOf i).toNat)
    case atStart => exact ⟨k + 1, by omega, hk1, unhide HE, by go_num⟩
    case round =>
      obtain ⟨m, hm1, hm2, hmE, rfl⟩ := hrel
      have HME := hide hmE
      clear hmE
      by_cases hlm : m < n
      · have hms : m < s.size := by have := unhide HN; omega
        have hcm := (cell_block ((unhide HB0).block b hlt)).trans ((unhide HCL) m hms)
        have hri := fun W => rinn_any s[m] W
        cases hin : Lx.isInn s[m]
        · rw [hin] at hri
          have HRI := hide hri
          have hmk : m = k + E := by have := unhide HME; rw [span_done hms hin] at this; exact this
          have hcv := unhide HCV
          clear hri hin
          subst hmk
          go_wp2_with fail
          refine ((unhide HRI) _).mono ?_; rintro e wx ⟨rfl, rfl⟩
          go_wp2_with fail
          refine ((unhide HI) _).mono ?_; rintro e wx ⟨rfl, rfl⟩
          go_wp2_with fail
          exact bodyPost_ret (v := .tuple #[tkV ⟨0, ⟨#[]⟩, 0⟩, .int .i64 ((E : Nat) : Int)]) (by simp [results, Tryd.results28, go_sem] <;> omega) rfl ⟨⟨0, ⟨#[]⟩, 0⟩, rfl, fun h => absurd rfl h, fun _ => rfl, (Below.refl _ _).alloc (Nat.le_refl _) _⟩
        · rw [hin] at hri
          have HRI := hide hri
          have HNX := hide ((span_more hms hin).symm.trans (unhide HME))
          clear hri hin
          go_wp2_with fail
          refine ((unhide HRI) _).mono ?_; rintro e wx ⟨rfl, rfl⟩
          go_wp2_with fail
          go_round
          case rel => exact ⟨m + 1, by omega, by omega, unhide HNX, by go_num⟩
          case measure => simp [intOf]; omega
      · have hmk : m = k + E := by have := unhide HME; rw [span_end (by have := unhide HN; omega)] at this; exact this
        have hcv := unhide HCV
        subst hmk
        go_wp2_with fail
        refine ((unhide HI) _).mono ?_; rintro e wx ⟨rfl, rfl⟩
        go_wp2_with fail
        exact bodyPost_ret (v := .tuple #[tkV ⟨0, ⟨#[]⟩, 0⟩, .int .i64 ((E : Nat) : Int)]) (by simp [results, Tryd.results28, go_sem] <;> omega) rfl ⟨⟨0, ⟨#[]⟩, 0⟩, rfl, fun h => absurd rfl h, fun _ => rfl, (Below.refl _ _).alloc (Nat.le_refl _) _⟩
  · rw [hb, if_pos rfl] at hx
    rw [hb] at hi
    rw [hx]
    have HRL := hide hrl; have HRD := hide hrd; have HI := hide hi; have HE := hide hE1; have HN := hide hn; have HCV := hide hcv; have HCL := hide hcl; have HB0 := hide hb0
    clear hrl hrd hi hE hE1 hn hcv hS hS1 hcl hx hlet hnum hdig hb e' hb0 hle
    go_enter Tryd.func28, Tryd.ntmps28
    go_wp2_with fail
    refine ((unhide HRL) _).mono ?_; rintro e wx ⟨rfl, rfl⟩
    go_wp2_with fail
    refine ((unhide HRD) _).mono ?_; rintro e wx ⟨rfl, rfl⟩
    go_wp2_with fail
    refine ((unhide HRD2) _).mono ?_; rintro e wx ⟨rfl, rfl⟩
    go_wp2_with fail
    go_loop [7] (fun i => ∃ m : Nat, k ≤ m ∧ m ≤ n ∧ m + Lx.spanN Lx.isInn ((L s).drop m) = k + E ∧ i = .int .i64 (m : Int)) (fun i => n - (intOf i).toNat)
    case atStart => exact ⟨k + 1, by omega, hk1, unhide HE, by go_num⟩
    case round =>
      obtain ⟨m, hm1, hm2, hmE, rfl⟩ := hrel
      have HME := hide hmE
      clear hmE
      by_cases hlm : m < n
      · have hms : m < s.size := by have := unhide HN; omega
        have hcm := (cell_block ((unhide HB0).block b hlt)).trans ((unhide HCL) m hms)
        have hri := fun W => rinn_any s[m] W
        cases hin : Lx.isInn s[m]
        · rw [hin] at hri
          have HRI := hide hri
          have hmk : m = k + E := by have := unhide HME; rw [span_done hms hin] at this; exact this
          have hcv := unhide HCV
          clear hri hin
          subst hmk
          go_wp2_with fail
          refine ((unhide HRI) _).mono ?_; rintro e wx ⟨rfl, rfl⟩
          go_wp2_with fail
          refine ((unhide HI) _).mono ?_; rintro e wx ⟨rfl, rfl⟩
          go_wp2_with fail
          exact bodyPost_ret (v := .tuple #[tkV ⟨2, ⟨(((L s).drop k).take E).toArray⟩, (k : Int)⟩, .int .i64 ((E : Nat) : Int)]) (by simp [results, Tryd.results28, go_sem] <;> omega) rfl ⟨⟨2, ⟨(((L s).drop k).take E).toArray⟩, (k : Int)⟩, rfl, fun _ => rfl, fun h => by simp at h, (Below.refl _ _).alloc (Nat.le_refl _) _⟩
        · rw [hin] at hri
          have HRI := hide hri
          have HNX := hide ((span_more hms hin).symm.trans (unhide HME))
          clear hri hin
          go_wp2_with fail
          refine ((unhide HRI) _).mono ?_; rintro e wx ⟨rfl, rfl⟩
          go_wp2_with fail
          go_round
          case rel => exact ⟨m + 1, by omega, by omega, unhide HNX, by go_num⟩
          case measure => simp [intOf]; omega
      · have hmk : m = k + E := by have := unhide HME; rw [span_end (by have := unhide HN; omega)] at this; exact this
        have hcv := unhide HCV
        subst hmk
        go_wp2_with fail
        refine ((unhide HI) _).mono ?_; rintro e wx ⟨rfl, rfl⟩
        go_wp2_with fail
        exact bodyPost_ret (v := .tuple #[tkV ⟨2, ⟨(((L s).drop k).take E).toArray⟩, (k : Int)⟩, .int .i64 ((E : Nat) : Int)]) (by simp [results, Tryd.results28, go_sem] <;> omega) rfl ⟨⟨2, ⟨(((L s).drop k).take E).toArray⟩, (k : Int)⟩, rfl, fun _ => rfl, fun h => by simp at h, (Below.refl _ _).alloc (Nat.le_refl _) _⟩
theorem tok_rest {c : Lx.B} {r : List Lx.B} (h1 : Lx.isLet c = false) (h2 : Lx.isDig c = false) (h3 : (c == 45 && Lx.nxD r) = false) :
    Lx.tok1 (c :: r) = if (rqV (c :: r)).2 ≠ 0 then (3, (rqV (c :: r)).1, (rqV (c :: r)).2) else if (decide (1 ≤ r.length) && Lx.sgnP ((c :: r).take 2)) = true then (4, (c :: r).take 2, 2) else if Lx.sgnP [c] = true then (4, [c], 1) else (0, [], 1) := by
  by_cases h34 : c = 34
  · subst h34
    rw [Lx.tok_quote]
    cases hq : Lx.qb r with
    | none => rw [rq_none hq, Lx.sgn_two r (by decide), Lx.sgn_one, Bool.and_false, if_neg (by simp), if_neg (by decide), if_neg (by decide)]
    | some x => rw [rq_some hq, if_pos (by simp)]
  · have hr : rqV (c :: r) = ([], 0) := if_neg h34
    rw [hr, if_neg (by simp), Lx.sgn_one]
    show Lx.tokC c r = _
    unfold Lx.tokC
    rw [if_neg (by rw [h1]; decide), h2, h3, if_neg (by decide), if_neg h34]
    cases hs : Lx.isSg1 c
    · have h32 : Lx.cls c ≠ 32 := fun e => by rw [(Lx.isSg1_of c).2 e] at hs; cases hs
      rw [Lx.sgn_two r h32, Bool.and_false, if_neg (by decide), if_neg (by decide), if_neg (by decide)]
    · rw [if_pos rfl, if_pos rfl, Bool.and_comm]
set_option maxRecDepth 100000 in
set_option maxHeartbeats 8000000 in
theorem rtoken_rest (b o n c k : Nat) (s : ByteArray) (w : World) (hn : s.size = n) (hS : Src w (some ⟨b, o, none⟩) s) (hk : k < n) (hl : n ≤ 1000000) (hc : n ≤ c)
    (hks : k < s.size) (hlet : Lx.isLet s[k] = false) (hdig : Lx.isDig s[k] = false) (h45 : s[k] ≠ 45) (hno : (s[k] == 45 && Lx.nxD ((L s).drop (k + 1))) = false) :
    Calls Tryd.prog 28 #[.slice (some ⟨b, o, none⟩) n c, .int .i64 (k : Int)] w (RTok k (Lx.tok1 ((L s).drop k)) w) := by
  have hb0 := (Below.refl w.heap.size w).alloc (Nat.le_refl _) (.cells #[.int .i64 0, .string ⟨#[]⟩, .int .i64 0] 41)
  have hS1 := hS.keep hb0
  obtain ⟨b', o', e', hlt, hcl⟩ := hS.cell (by omega)
  obtain ⟨rfl, rfl⟩ : b = b' ∧ o = o' := by injection e' with e'; injection e' with e1 e2 e3; exact ⟨e1, e2⟩
  have hck := (cell_block (hb0.block b hlt)).trans (hcl k hks)
  have hx := tok_rest (r := (L s).drop (k + 1)) hlet hdig hno
  have hone : [s[k]] = ((L s).drop k).take 1 := by rw [L_drop s k hks]; rfl
  rw [hone, ← L_drop s k hks] at hx
  have hrl := fun W => rlet_any s[k] W
  rw [hlet] at hrl
  have hrd := fun W => rdig_any s[k] W
  rw [hdig] at hrd
  have hlr : ((L s).drop (k + 1)).length = n - (k + 1) := by rw [List.length_drop, L_len, hn]
  rw [hlr] at hx
  have hq := rquoted_any (some ⟨b, o + k, none⟩) (n - k) (c - k) (s.extract k s.size) _ (by rw [ByteArray.size_extract]; omega) (hS1.tail k (by omega)) (by omega)
  rw [L_tail] at hq
  unfold RqIs at hq
  have hs1 := fun W => rsign_any ⟨(((L s).drop k).take 1).toArray⟩ W
  rw [L_mk] at hs1
  have hs2 := fun W => rsign_any ⟨(((L s).drop k).take 2).toArray⟩ W
  rw [L_mk] at hs2
  generalize rqV ((L s).drop k) = x at hx hq
  obtain ⟨x1, x2⟩ := x
  simp only at hx hq
  generalize Lx.sgnP (((L s).drop k).take 1) = b1 at hx hs1
  generalize Lx.sgnP (((L s).drop k).take 2) = b2 at hx hs2
  have HRL := hide hrl; have HRD := hide hrd; have HQ := hide hq; have HN := hide hn; have HS1 := hide hS1; have HA1 := hide hs1; have HA2 := hide hs2; have HX := hide hx
  clear hrl hrd hq hn hS hS1 hcl hlet hdig hno e' hb0 hlr hs1 hs2 hx hone
  have q45 : ((s[k].toNat : Int) == 45) = false := by rw [beq_eq_false_iff_ne]; intro e; exact h45 ((Lx.eq_byte (n := 45) (by decide)).2 (by omega))
  clear h45
  by_cases hk2 : k + 1 < n
  · have hlt1 : (k : Int) + 1 < (n : Int) := by omega
    by_cases h0 : x2 ≠ 0
    · have hxp : (0 : Int) < (x2 : Int) := by omega
      have hx := unhide HX
      rw [if_pos h0] at hx
      rw [hx]
      clear hx HX h0
      go_enter Tryd.func28, Tryd.ntmps28
      go_wp2_with fail
      refine ((unhide HRL) _).mono ?_; rintro e wx ⟨rfl, rfl⟩
      go_wp2_with fail
      refine ((unhide HRD) _).mono ?_; rintro e wx ⟨rfl, rfl⟩
      go_wp2_with fail
      refine (unhide HQ).mono ?_; rintro e w2 ⟨rfl, hbq⟩
      have HBX := hide (((Below.refl w.heap.size w).alloc (Nat.le_refl _) _).trans (hbq.mono (by simp)))
      have hblk := hbq.block w.heap.size (by simp)
      have f0 : w2.cell? ⟨w.heap.size, 0, none⟩ = some (.int .i64 0) := (cell_block hblk).trans (by go_simp)
      have f1 : w2.cell? ⟨w.heap.size, 1, none⟩ = some (.string ⟨#[]⟩) := (cell_block hblk).trans (by go_simp)
      have f2 : w2.cell? ⟨w.heap.size, 2, none⟩ = some (.int .i64 0) := (cell_block hblk).trans (by go_simp)
      have g0 : w2.frozen? ⟨w.heap.size, 0, none⟩ = false := (World.frozen?_of_block hblk).trans (by go_simp)
      have g1 : w2.frozen? ⟨w.heap.size, 1, none⟩ = false := (World.frozen?_of_block hblk).trans (by go_simp)
      have g2 : w2.frozen? ⟨w.heap.size, 2, none⟩ = false := (World.frozen?_of_block hblk).trans (by go_simp)
      have hS2 := (unhide HS1).keep (hbq.mono (by simp))
      have hv1 := src_sub hS2 k 1 (by have := unhide HN; omega)
      rw [ext_take s k 1] at hv1
      have hv2 := src_sub hS2 k 2 (by have := unhide HN; omega)
      rw [ext_take s k 2] at hv2
      clear hbq hblk hS2
      go_wp2_with fail
      exact bodyPost_ret (v := .tuple #[tkV ⟨3, ⟨x1.toArray⟩, (k : Int)⟩, .int .i64 ((x2 : Nat) : Int)]) (by simp [results, Tryd.results28, go_sem, f0, f1, f2]) rfl ⟨⟨3, ⟨x1.toArray⟩, (k : Int)⟩, rfl, fun _ => rfl, fun h => by simp at h, (((unhide HBX).setCell (Nat.le_refl _) _).setCell (Nat.le_refl _) _).setCell (Nat.le_refl _) _⟩
    · have h0' : x2 = 0 := by omega
      subst h0'
      have hx := unhide HX
      rw [if_neg h0] at hx
      clear h0 HX
      have h2 := unhide HA2
      cases b2
      · rw [if_neg (by simp)] at hx
        have HC2 := hide h2
        clear h2 HA2
        have h1 := unhide HA1
        cases b1
        · rw [if_neg (by simp)] at hx
          rw [hx]
          have HB := hide h1
          clear hx h1 HA1
          go_enter Tryd.func28, Tryd.ntmps28
          go_wp2_with fail
          refine ((unhide HRL) _).mono ?_; rintro e wx ⟨rfl, rfl⟩
          go_wp2_with fail
          refine ((unhide HRD) _).mono ?_; rintro e wx ⟨rfl, rfl⟩
          go_wp2_with fail
          refine (unhide HQ).mono ?_; rintro e w2 ⟨rfl, hbq⟩
          have HBX := hide (((Below.refl w.heap.size w).alloc (Nat.le_refl _) _).trans (hbq.mono (by simp)))
          have hblk := hbq.block w.heap.size (by simp)
          have f0 : w2.cell? ⟨w.heap.size, 0, none⟩ = some (.int .i64 0) := (cell_block hblk).trans (by go_simp)
          have f1 : w2.cell? ⟨w.heap.size, 1, none⟩ = some (.string ⟨#[]⟩) := (cell_block hblk).trans (by go_simp)
          have f2 : w2.cell? ⟨w.heap.size, 2, none⟩ = some (.int .i64 0) := (cell_block hblk).trans (by go_simp)
          have g0 : w2.frozen? ⟨w.heap.size, 0, none⟩ = false := (World.frozen?_of_block hblk).trans (by go_simp)
          have g1 : w2.frozen? ⟨w.heap.size, 1, none⟩ = false := (World.frozen?_of_block hblk).trans (by go_simp)
          have g2 : w2.frozen? ⟨w.heap.size, 2, none⟩ = false := (World.frozen?_of_block hblk).trans (by go_simp)
          have hS2 := (unhide HS1).keep (hbq.mono (by simp))
          have hv1 := src_sub hS2 k 1 (by have := unhide HN; omega)
          rw [ext_take s k 1] at hv1
          have hv2 := src_sub hS2 k 2 (by have := unhide HN; omega)
          rw [ext_take s k 2] at hv2
          clear hbq hblk hS2
          go_wp2_with fail
          refine ((unhide HC2) _).mono ?_; rintro e wx ⟨rfl, rfl⟩
          go_wp2_with fail
          refine ((unhide HB) _).mono ?_; rintro e wx ⟨rfl, rfl⟩
          go_wp2_with fail
          exact bodyPost_ret (v := .tuple #[tkV ⟨0, ⟨#[]⟩, 0⟩, .int .i64 ((1 : Nat) : Int)]) (by simp [results, Tryd.results28, go_sem, f0, f1, f2]) rfl ⟨⟨0, ⟨#[]⟩, 0⟩, rfl, fun h => absurd rfl h, fun _ => rfl, (((unhide HBX).setCell (Nat.le_refl _) _).setCell (Nat.le_refl _) _).setCell (Nat.le_refl _) _⟩
        · rw [if_pos (by simp)] at hx
          rw [hx]
          have HB := hide h1
          clear hx h1 HA1
          go_enter Tryd.func28, Tryd.ntmps28
          go_wp2_with fail
          refine ((unhide HRL) _).mono ?_; rintro e wx ⟨rfl, rfl⟩
          go_wp2_with fail
          refine ((unhide HRD) _).mono ?_; rintro e wx ⟨rfl, rfl⟩
          go_wp2_with fail
          refine (unhide HQ).mono ?_; rintro e w2 ⟨rfl, hbq⟩
          have HBX := hide (((Below.refl w.heap.size w).alloc (Nat.le_refl _) _).trans (hbq.mono (by simp)))
          have hblk := hbq.block w.heap.size (by simp)
          have f0 : w2.cell? ⟨w.heap.size, 0, none⟩ = some (.int .i64 0) := (cell_block hblk).trans (by go_simp)
          have f1 : w2.cell? ⟨w.heap.size, 1, none⟩ = some (.string ⟨#[]⟩) := (cell_block hblk).trans (by go_simp)
          have f2 : w2.cell? ⟨w.heap.size, 2, none⟩ = some (.int .i64 0) := (cell_block hblk).trans (by go_simp)
          have g0 : w2.frozen? ⟨w.heap.size, 0, none⟩ = false := (World.frozen?_of_block hblk).trans (by go_simp)
          have g1 : w2.frozen? ⟨w.heap.size, 1, none⟩ = false := (World.frozen?_of_block hblk).trans (by go_simp)
          have g2 : w2.frozen? ⟨w.heap.size, 2, none⟩ = false := (World.frozen?_of_block hblk).trans (by go_simp)
          have hS2 := (unhide HS1).keep (hbq.mono (by simp))
          have hv1 := src_sub hS2 k 1 (by have := unhide HN; omega)
          rw [ext_take s k 1] at hv1
          have hv2 := src_sub hS2 k 2 (by have := unhide HN; omega)
          rw [ext_take s k 2] at hv2
          clear hbq hblk hS2
          go_wp2_with fail
          refine ((unhide HC2) _).mono ?_; rintro e wx ⟨rfl, rfl⟩
          go_wp2_with fail
          refine ((unhide HB) _).mono ?_; rintro e wx ⟨rfl, rfl⟩
          go_wp2_with fail
          exact bodyPost_ret (v := .tuple #[tkV ⟨4, ⟨(((L s).drop k).take 1).toArray⟩, (k : Int)⟩, .int .i64 ((1 : Nat) : Int)]) (by simp [results, Tryd.results28, go_sem, f0, f1, f2]) rfl ⟨⟨4, ⟨(((L s).drop k).take 1).toArray⟩, (k : Int)⟩, rfl, fun _ => rfl, fun h => by simp at h, (((unhide HBX).setCell (Nat.le_refl _) _).setCell (Nat.le_refl _) _).setCell (Nat.le_refl _) _⟩
      · rw [if_pos (by rw [decide_eq_true (show 1 ≤ n - (k + 1) by omega)]; rfl)] at hx
        rw [hx]
        have HC2 := hide h2
        clear hx h2 HA2
        go_enter Tryd.func28, Tryd.ntmps28
        go_wp2_with fail
        refine ((unhide HRL) _).mono ?_; rintro e wx ⟨rfl, rfl⟩
        go_wp2_with fail
        refine ((unhide HRD) _).mono ?_; rintro e wx ⟨rfl, rfl⟩
        go_wp2_with fail
        refine (unhide HQ).mono ?_; rintro e w2 ⟨rfl, hbq⟩
        have HBX := hide (((Below.refl w.heap.size w).alloc (Nat.le_refl _) _).trans (hbq.mono (by simp)))
        have hblk := hbq.block w.heap.size (by simp)
        have f0 : w2.cell? ⟨w.heap.size, 0, none⟩ = some (.int .i64 0) := (cell_block hblk).trans (by go_simp)
        have f1 : w2.cell? ⟨w.heap.size, 1, none⟩ = some (.string ⟨#[]⟩) := (cell_block hblk).trans (by go_simp)
        have f2 : w2.cell? ⟨w.heap.size, 2, none⟩ = some (.int .i64 0) := (cell_block hblk).trans (by go_simp)
        have g0 : w2.frozen? ⟨w.heap.size, 0, none⟩ = false := (World.frozen?_of_block hblk).trans (by go_simp)
        have g1 : w2.frozen? ⟨w.heap.size, 1, none⟩ = false := (World.frozen?_of_block hblk).trans (by go_simp)
        have g2 : w2.frozen? ⟨w.heap.size, 2, none⟩ = false := (World.frozen?_of_block hblk).trans (by go_simp)
        have hS2 := (unhide HS1).keep (hbq.mono (by simp))
        have hv1 := src_sub hS2 k 1 (by have := unhide HN; omega)
        rw [ext_take s k 1] at hv1
        have hv2 := src_sub hS2 k 2 (by have := unhide HN; omega)
        rw [ext_take s k 2] at hv2
        clear hbq hblk hS2
        go_wp2_with fail
        refine ((unhide HC2) _).mono ?_; rintro e wx ⟨rfl, rfl⟩
        go_wp2_with fail
        exact bodyPost_ret (v := .tuple #[tkV ⟨4, ⟨(((L s).drop k).take 2).toArray⟩, (k : Int)⟩, .int .i64 ((2 : Nat) : Int)]) (by simp [results, Tryd.results28, go_sem, f0, f1, f2]) rfl ⟨⟨4, ⟨(((L s).drop k).take 2).toArray⟩, (k : Int)⟩, rfl, fun _ => rfl, fun h => by simp at h, (((unhide HBX).setCell (Nat.le_refl _) _).setCell (Nat.le_refl _) _).setCell (Nat.le_refl _) _⟩
  · have hlt1 : ¬ (k : Int) + 1 < (n : Int) := by omega
    by_cases h0 : x2 ≠ 0
    · have hxp : (0 : Int) < (x2 : Int) := by omega
      have hx := unhide HX
      rw [if_pos h0] at hx
      rw [hx]
      clear hx HX h0
      go_enter Tryd.func28, Tryd.ntmps28
      go_wp2_with fail
      refine ((unhide HRL) _).mono ?_; rintro e wx ⟨rfl, rfl⟩
      go_wp2_with fail
      refine ((unhide HRD) _).mono ?_; rintro e wx ⟨rfl, rfl⟩
      go_wp2_with fail
      refine (unhide HQ).mono ?_; rintro e w2 ⟨rfl, hbq⟩
      have HBX := hide (((Below.refl w.heap.size w).alloc (Nat.le_refl _) _).trans (hbq.mono (by simp)))
      have hblk := hbq.block w.heap.size (by simp)
      have f0 : w2.cell? ⟨w.heap.size, 0, none⟩ = some (.int .i64 0) := (cell_block hblk).trans (by go_simp)
      have f1 : w2.cell? ⟨w.heap.size, 1, none⟩ = some (.string ⟨#[]⟩) := (cell_block hblk).trans (by go_simp)
      have f2 : w2.cell? ⟨w.heap.size, 2, none⟩ = some (.int .i64 0) := (cell_block hblk).trans (by go_simp)
      have g0 : w2.frozen? ⟨w.heap.size, 0, none⟩ = false := (World.frozen?_of_block hblk).trans (by go_simp)
      have g1 : w2.frozen? ⟨w.heap.size, 1, none⟩ = false := (World.frozen?_of_block hblk).trans (by go_simp)
      have g2 : w2.frozen? ⟨w.heap.size, 2, none⟩ = false := (World.frozen?_of_block hblk).trans (by go_simp)
      have hS2 := (unhide HS1).keep (hbq.mono (by simp))
      have hv1 := src_sub hS2 k 1 (by have := unhide HN; omega)
      rw [ext_take s k 1] at hv1
      clear hbq hblk hS2
      go_wp2_with fail
      exact bodyPost_ret (v := .tuple #[tkV ⟨3, ⟨x1.toArray⟩, (k : Int)⟩, .int .i64 ((x2 : Nat) : Int)]) (by simp [results, Tryd.results28, go_sem, f0, f1, f2]) rfl ⟨⟨3, ⟨x1.toArray⟩, (k : Int)⟩, rfl, fun _ => rfl, fun h => by simp at h, (((unhide HBX).setCell (Nat.le_refl _) _).setCell (Nat.le_refl _) _).setCell (Nat.le_refl _) _⟩
    · have h0' : x2 = 0 := by omega
      subst h0'
      have hx := unhide HX
      rw [if_neg h0] at hx
      clear h0 HX
      rw [if_neg (by rw [decide_eq_false (show ¬ 1 ≤ n - (k + 1) by omega)]; simp)] at hx
      have h1 := unhide HA1
      cases b1
      · rw [if_neg (by simp)] at hx
        rw [hx]
        have HB := hide h1
        clear hx h1 HA1
        go_enter Tryd.func28, Tryd.ntmps28
        go_wp2_with fail
        refine ((unhide HRL) _).mono ?_; rintro e wx ⟨rfl, rfl⟩
        go_wp2_with fail
        refine ((unhide HRD) _).mono ?_; rintro e wx ⟨rfl, rfl⟩
        go_wp2_with fail
        refine (unhide HQ).mono ?_; rintro e w2 ⟨rfl, hbq⟩
        have HBX := hide (((Below.refl w.heap.size w).alloc (Nat.le_refl _) _).trans (hbq.mono (by simp)))
        have hblk := hbq.block w.heap.size (by simp)
        have f0 : w2.cell? ⟨w.heap.size, 0, none⟩ = some (.int .i64 0) := (cell_block hblk).trans (by go_simp)
        have f1 : w2.cell? ⟨w.heap.size, 1, none⟩ = some (.string ⟨#[]⟩) := (cell_block hblk).trans (by go_simp)
        have f2 : w2.cell? ⟨w.heap.size, 2, none⟩ = some (.int .i64 0) := (cell_block hblk).trans (by go_simp)
        have g0 : w2.frozen? ⟨w.heap.size, 0, none⟩ = false := (World.frozen?_of_block hblk).trans (by go_simp)
        have g1 : w2.frozen? ⟨w.heap.size, 1, none⟩ = false := (World.frozen?_of_block hblk).trans (by go_simp)
        have g2 : w2.frozen? ⟨w.heap.size, 2, none⟩ = false := (World.frozen?_of_block hblk).trans (by go_simp)
        have hS2 := (unhide HS1).keep (hbq.mono (by simp))
        have hv1 := src_sub hS2 k 1 (by have := unhide HN; omega)
        rw [ext_take s k 1] at hv1
        clear hbq hblk hS2
        go_wp2_with fail
        refine ((unhide HB) _).mono ?_; rintro e wx ⟨rfl, rfl⟩
        go_wp2_with fail
        exact bodyPost_ret (v := .tuple #[tkV ⟨0, ⟨#[]⟩, 0⟩, .int .i64 ((1 : Nat) : Int)]) (by simp [results, Tryd.results28, go_sem, f0, f1, f2]) rfl ⟨⟨0, ⟨#[]⟩, 0⟩, rfl, fun h => absurd rfl h, fun _ => rfl, (((unhide HBX).setCell (Nat.le_refl _) _).setCell (Nat.le_refl _) _).setCell (Nat.le_refl _) _⟩
      · rw [if_pos (by simp)] at hx
        rw [hx]
        have HB := hide h1
        clear hx h1 HA1
        go_enter Tryd.func28, Tryd.ntmps28
        go_wp2_with fail
        refine ((unhide HRL) _).mono ?_; rintro e wx ⟨rfl, rfl⟩
        go_wp2_with fail
        refine ((unhide HRD) _).mono ?_; rintro e wx ⟨rfl, rfl⟩
        go_wp2_with fail
        refine (unhide HQ).mono ?_; rintro e w2 ⟨rfl, hbq⟩
        have HBX := hide (((Below.refl w.heap.size w).alloc (Nat.le_refl _) _).trans (hbq.mono (by simp)))
        have hblk := hbq.block w.heap.size (by simp)
        have f0 : w2.cell? ⟨w.heap.size, 0, none⟩ = some (.int .i64 0) := (cell_block hblk).trans (by go_simp)
        have f1 : w2.cell? ⟨w.heap.size, 1, none⟩ = some (.string ⟨#[]⟩) := (cell_block hblk).trans (by go_simp)
        have f2 : w2.cell? ⟨w.heap.size, 2, none⟩ = some (.int .i64 0) := (cell_block hblk).trans (by go_simp)
        have g0 : w2.frozen? ⟨w.heap.size, 0, none⟩ = false := (World.frozen?_of_block hblk).trans (by go_simp)
        have g1 : w2.frozen? ⟨w.heap.size, 1, none⟩ = false := (World.frozen?_of_block hblk).trans (by go_simp)
        have g2 : w2.frozen? ⟨w.heap.size, 2, none⟩ = false := (World.frozen?_of_block hblk).trans (by go_simp)
        have hS2 := (unhide HS1).keep (hbq.mono (by simp))
        have hv1 := src_sub hS2 k 1 (by have := unhide HN; omega)
        rw [ext_take s k 1] at hv1
        clear hbq hblk hS2
        go_wp2_with fail
        refine ((unhide HB) _).mono ?_; rintro e wx ⟨rfl, rfl⟩
        go_wp2_with fail
        exact bodyPost_ret (v := .tuple #[tkV ⟨4, ⟨(((L s).drop k).take 1).toArray⟩, (k : Int)⟩, .int .i64 ((1 : Nat) : Int)]) (by simp [results, Tryd.results28, go_sem, f0, f1, f2]) rfl ⟨⟨4, ⟨(((L s).drop k).take 1).toArray⟩, (k : Int)⟩, rfl, fun _ => rfl, fun h => by simp at h, (((unhide HBX).setCell (Nat.le_refl _) _).setCell (Nat.le_refl _) _).setCell (Nat.le_refl _) _⟩
set_option maxRecDepth 100000 in
set_option maxHeartbeats 8000000 in
theorem rtoken_m2 (b o n c k : Nat) (s : ByteArray) (w : World) (hn : s.size = n) (hS : Src w (some ⟨b, o, none⟩) s) (hk : k < n) (hl : n ≤ 1000000) (hc : n ≤ c)
    (hks : k < s.size) (hlet : Lx.isLet s[k] = false) (hdig : Lx.isDig s[k] = false) (h45 : s[k] = 45) (hk2 : k + 1 < s.size) (hdig2 : Lx.isDig s[k + 1] = false) (hno : (s[k] == 45 && Lx.nxD ((L s).drop (k + 1))) = false) :
    Calls Tryd.prog 28 #[.slice (some ⟨b, o, none⟩) n c, .int .i64 (k : Int)] w (RTok k (Lx.tok1 ((L s).drop k)) w) := by
  have hck2 : (w.alloc (.cells #[.int .i64 0, .string ⟨#[]⟩, .int .i64 0] 41)).cell? ⟨b, o + (k + 1), none⟩ = some (.int .u8 (s[k + 1].toNat : Int)) := by
    obtain ⟨b', o', e', hlt, hcl⟩ := hS.cell (by omega)
    obtain ⟨rfl, rfl⟩ : b = b' ∧ o = o' := by injection e' with e'; injection e' with e1 e2 e3; exact ⟨e1, e2⟩
    exact (cell_block (((Below.refl w.heap.size w).alloc (Nat.le_refl _) _).block b hlt)).trans (hcl (k + 1) hk2)
  have hrd2 := fun W => rdig_any s[k + 1] W
  rw [hdig2] at hrd2
  have HRD2 := hide hrd2
  clear hrd2 hdig2
  have hb0 := (Below.refl w.heap.size w).alloc (Nat.le_refl _) (.cells #[.int .i64 0, .string ⟨#[]⟩, .int .i64 0] 41)
  have hS1 := hS.keep hb0
  obtain ⟨b', o', e', hlt, hcl⟩ := hS.cell (by omega)
  obtain ⟨rfl, rfl⟩ : b = b' ∧ o = o' := by injection e' with e'; injection e' with e1 e2 e3; exact ⟨e1, e2⟩
  have hck := (cell_block (hb0.block b hlt)).trans (hcl k hks)
  have hx := tok_rest (r := (L s).drop (k + 1)) hlet hdig hno
  have hone : [s[k]] = ((L s).drop k).take 1 := by rw [L_drop s k hks]; rfl
  rw [hone, ← L_drop s k hks] at hx
  have hrl := fun W => rlet_any s[k] W
  rw [hlet] at hrl
  have hrd := fun W => rdig_any s[k] W
  rw [hdig] at hrd
  have hlr : ((L s).drop (k + 1)).length = n - (k + 1) := by rw [List.length_drop, L_len, hn]
  rw [hlr] at hx
  have hq := rquoted_any (some ⟨b, o + k, none⟩) (n - k) (c - k) (s.extract k s.size) _ (by rw [ByteArray.size_extract]; omega) (hS1.tail k (by omega)) (by omega)
  rw [L_tail] at hq
  unfold RqIs at hq
  have hs1 := fun W => rsign_any ⟨(((L s).drop k).take 1).toArray⟩ W
  rw [L_mk] at hs1
  have hs2 := fun W => rsign_any ⟨(((L s).drop k).take 2).toArray⟩ W
  rw [L_mk] at hs2
  generalize rqV ((L s).drop k) = x at hx hq
  obtain ⟨x1, x2⟩ := x
  simp only at hx hq
  generalize Lx.sgnP (((L s).drop k).take 1) = b1 at hx hs1
  generalize Lx.sgnP (((L s).drop k).take 2) = b2 at hx hs2
  have HRL := hide hrl; have HRD := hide hrd; have HQ := hide hq; have HN := hide hn; have HS1 := hide hS1; have HA1 := hide hs1; have HA2 := hide hs2; have HX := hide hx
  clear hrl hrd hq hn hS hS1 hcl hlet hdig hno e' hb0 hlr hs1 hs2 hx hone
  have q45 : ((s[k].toNat : Int) == 45) = true := by rw [h45]; rfl
  clear h45
  have hk3 : k + 1 < n := by have := unhide HN; omega
  have hlt1 : (k : Int) + 1 < (n : Int) := by omega
  by_cases h0 : x2 ≠ 0
  · have hxp : (0 : Int) < (x2 : Int) := by omega
    have hx := unhide HX
    rw [if_pos h0] at hx
    rw [hx]
    clear hx HX h0
    go_enter Tryd.func28, Tryd.ntmps28
    go_wp2_with fail
    refine ((unhide HRL) _).mono ?_; rintro e wx ⟨rfl, rfl⟩
    go_wp2_with fail
    refine ((unhide HRD) _).mono ?_; rintro e wx ⟨rfl, rfl⟩
    go_wp2_with fail
    refine ((unhide HRD2) _).mono ?_; rintro e wx ⟨rfl, rfl⟩
    go_wp2_with fail
    refine (unhide HQ).mono ?_; rintro e w2 ⟨rfl, hbq⟩
    have HBX := hide (((Below.refl w.heap.size w).alloc (Nat.le_refl _) _).trans (hbq.mono (by simp)))
    have hblk := hbq.block w.heap.size (by simp)
    have f0 : w2.cell? ⟨w.heap.size, 0, none⟩ = some (.int .i64 0) := (cell_block hblk).trans (by go_simp)
    have f1 : w2.cell? ⟨w.heap.size, 1, none⟩ = some (.string ⟨#[]⟩) := (cell_block hblk).trans (by go_simp)
    have f2 : w2.cell? ⟨w.heap.size, 2, none⟩ = some (.int .i64 0) := (cell_block hblk).trans (by go_simp)
    have g0 : w2.frozen? ⟨w.heap.size, 0, none⟩ = false := (World.frozen?_of_block hblk).trans (by go_simp)
    have g1 : w2.frozen? ⟨w.heap.size, 1, none⟩ = false := (World.frozen?_of_block hblk).trans (by go_simp)
    have g2 : w2.frozen? ⟨w.heap.size, 2, none⟩ = false := (World.frozen?_of_block hblk).trans (by go_simp)
    have hS2 := (unhide HS1).keep (hbq.mono (by simp))
    have hv1 := src_sub hS2 k 1 (by have := unhide HN; omega)
    rw [ext_take s k 1] at hv1
    have hv2 := src_sub hS2 k 2 (by have := unhide HN; omega)
    rw [ext_take s k 2] at hv2
    clear hbq hblk hS2
    go_wp2_with fail
    exact bodyPost_ret (v := .tuple #[tkV ⟨3, ⟨x1.toArray⟩, (k : Int)⟩, .int .i64 ((x2 : Nat) : Int)]) (by simp [results, Tryd.results28, go_sem, f0, f1, f2]) rfl ⟨⟨3, ⟨x1.toArray⟩, (k : Int)⟩, rfl, fun _ => rfl, fun h => by simp at h, (((unhide HBX).setCell (Nat.le_refl _) _).setCell (Nat.le_refl _) _).setCell (Nat.le_refl _) _⟩
  · have h0' : x2 = 0 := by omega
    subst h0'
    have hx := unhide HX
    rw [if_neg h0] at hx
    clear h0 HX
    have h2 := unhide HA2
    cases b2
    · rw [if_neg (by simp)] at hx
      have HC2 := hide h2
      clear h2 HA2
      have h1 := unhide HA1
      cases b1
      · rw [if_neg (by simp)] at hx
        rw [hx]
        have HB := hide h1
        clear hx h1 HA1
        go_enter Tryd.func28, Tryd.ntmps28
        go_wp2_with fail
        refine ((unhide HRL) _).mono ?_; rintro e wx ⟨rfl, rfl⟩
        go_wp2_with fail
        refine ((unhide HRD) _).mono ?_; rintro e wx ⟨rfl, rfl⟩
        go_wp2_with fail
        refine ((unhide HRD2) _).mono ?_; rintro e wx ⟨rfl, rfl⟩
        go_wp2_with fail
        refine (unhide HQ).mono ?_; rintro e w2 ⟨rfl, hbq⟩
        have HBX := hide (((Below.refl w.heap.size w).alloc (Nat.le_refl _) _).trans (hbq.mono (by simp)))
        have hblk := hbq.block w.heap.size (by simp)
        have f0 : w2.cell? ⟨w.heap.size, 0, none⟩ = some (.int .i64 0) := (cell_block hblk).trans (by go_simp)
        have f1 : w2.cell? ⟨w.heap.size, 1, none⟩ = some (.string ⟨#[]⟩) := (cell_block hblk).trans (by go_simp)
        have f2 : w2.cell? ⟨w.heap.size, 2, none⟩ = some (.int .i64 0) := (cell_block hblk).trans (by go_simp)
        have g0 : w2.frozen? ⟨w.heap.size, 0, none⟩ = false := (World.frozen?_of_block hblk).trans (by go_simp)
        have g1 : w2.frozen? ⟨w.heap.size, 1, none⟩ = false := (World.frozen?_of_block hblk).trans (by go_simp)
        have g2 : w2.frozen? ⟨w.heap.size, 2, none⟩ = false := (World.frozen?_of_block hblk).trans (by go_simp)
        have hS2 := (unhide HS1).keep (hbq.mono (by simp))
        have hv1 := src_sub hS2 k 1 (by have := unhide HN; omega)
        rw [ext_take s k 1] at hv1
        have hv2 := src_sub hS2 k 2 (by have := unhide HN; omega)
        rw [ext_take s k 2] at hv2
        clear hbq hblk hS2
        go_wp2_with fail
        refine ((unhide HC2) _).mono ?_; rintro e wx ⟨rfl, rfl⟩
        go_wp2_with fail
        refine ((unhide HB) _).mono ?_; rintro e wx ⟨rfl, rfl⟩
        go_wp2_with fail
        exact bodyPost_ret (v := .tuple #[tkV ⟨0, ⟨#[]⟩, 0⟩, .int .i64 ((1 : Nat) : Int)]) (by simp [results, Tryd.results28, go_sem, f0, f1, f2]) rfl ⟨⟨0, ⟨#[]⟩, 0⟩, rfl, fun h => absurd rfl h, fun _ => rfl, (((unhide HBX).setCell (Nat.le_refl _) _).setCell (Nat.le_refl _) _).setCell (Nat.le_refl _) _⟩
      · rw [if_pos (by simp)] at hx
        rw [hx]
        have HB := hide h1
        clear hx h1 HA1
        go_enter Tryd.func28, Tryd.ntmps28
        go_wp2_with fail
        refine ((unhide HRL) _).mono ?_; rintro e wx ⟨rfl, rfl⟩
        go_wp2_with fail
        refine ((unhide HRD) _).mono ?_; rintro e wx ⟨rfl, rfl⟩
        go_wp2_with fail
        refine ((unhide HRD2) _).mono ?_; rintro e wx ⟨rfl, rfl⟩
        go_wp2_with fail
        refine (unhide HQ).mono ?_; rintro e w2 ⟨rfl, hbq⟩
        have HBX := hide (((Below.refl w.heap.size w).alloc (Nat.le_refl _) _).trans (hbq.mono (by simp)))
        have hblk := hbq.block w.heap.size (by simp)
        have f0 : w2.cell? ⟨w.heap.size, 0, none⟩ = some (.int .i64 0) := (cell_block hblk).trans (by go_simp)
        have f1 : w2.cell? ⟨w.heap.size, 1, none⟩ = some (.string ⟨#[]⟩) := (cell_block hblk).trans (by go_simp)
        have f2 : w2.cell? ⟨w.heap.size, 2, none⟩ = some (.int .i64 0) := (cell_block hblk).trans (by go_simp)
        have g0 : w2.frozen? ⟨w.heap.size, 0, none⟩ = false := (World.frozen?_of_block hblk).trans (by go_simp)
        have g1 : w2.frozen? ⟨w.heap.size, 1, none⟩ = false := (World.frozen?_of_block hblk).trans (by go_simp)
        have g2 : w2.frozen? ⟨w.heap.size, 2, none⟩ = false := (World.frozen?_of_block hblk).trans (by go_simp)
        have hS2 := (unhide HS1).keep (hbq.mono (by simp))
        have hv1 := src_sub hS2 k 1 (by have := unhide HN; omega)
        rw [ext_take s k 1] at hv1
        have hv2 := src_sub hS2 k 2 (by have := unhide HN; omega)
        rw [ext_take s k 2] at hv2
        clear hbq hblk hS2
        go_wp2_with fail
        refine ((unhide HC2) _).mono ?_; rintro e wx ⟨rfl, rfl⟩
        go_wp2_with fail
        refine ((unhide HB) _).mono ?_; rintro e wx ⟨rfl, rfl⟩
        go_wp2_with fail
        exact bodyPost_ret (v := .tuple #[tkV ⟨4, ⟨(((L s).drop k).take 1).toArray⟩, (k : Int)⟩, .int .i64 ((1 : Nat) : Int)]) (by simp [results, Tryd.results28, go_sem, f0, f1, f2]) rfl ⟨⟨4, ⟨(((L s).drop k).take 1).toArray⟩, (k : Int)⟩, rfl, fun _ => rfl, fun h => by simp at h, (((unhide HBX).setCell (Nat.le_refl _) _).setCell (Nat.le_refl _) _).setCell (Nat.le_refl _) _⟩
    · rw [if_pos (by rw [decide_eq_true (show 1 ≤ n - (k + 1) by omega)]; rfl)] at hx
      rw [hx]
      have HC2 := hide h2
      clear hx h2 HA2
      go_enter Tryd.func28, Tryd.ntmps28
      go_wp2_with fail
      refine ((unhide HRL) _).mono ?_; rintro e wx ⟨rfl, rfl⟩
      go_wp2_with fail
      refine ((unhide HRD) _).mono ?_; rintro e wx ⟨rfl, rfl⟩
      go_wp2_with fail
      refine ((unhide HRD2) _).mono ?_; rintro e wx ⟨rfl, rfl⟩
      go_wp2_with fail
      refine (unhide HQ).mono ?_; rintro e w2 ⟨rfl, hbq⟩
      have HBX := hide (((Below.refl w.heap.size w).alloc (Nat.le_refl _) _).trans (hbq.mono (by simp)))
      have hblk := hbq.block w.heap.size (by simp)
      have f0 : w2.cell? ⟨w.heap.size, 0, none⟩ = some (.int .i64 0) := (cell_block hblk).trans (by go_simp)
      have f1 : w2.cell? ⟨w.heap.size, 1, none⟩ = some (.string ⟨#[]⟩) := (cell_block hblk).trans (by go_simp)
      have f2 : w2.cell? ⟨w.heap.size, 2, none⟩ = some (.int .i64 0) := (cell_block hblk).trans (by go_simp)
      have g0 : w2.frozen? ⟨w.heap.size, 0, none⟩ = false := (World.frozen?_of_block hblk).trans (by go_simp)
      have g1 : w2.frozen? ⟨w.heap.size, 1, none⟩ = false := (World.frozen?_of_block hblk).trans (by go_simp)
      have g2 : w2.frozen? ⟨w.heap.size, 2, none⟩ = false := (World.frozen?_of_block hblk).trans (by go_simp)
      have hS2 := (unhide HS1).keep (hbq.mono (by simp))
      have hv1 := src_sub hS2 k 1 (by have := unhide HN; omega)
      rw [ext_take s k 1] at hv1
      have hv2 := src_sub hS2 k 2 (by have := unhide HN; omega)
      rw [ext_take s k 2] at hv2
      clear hbq hblk hS2
      go_wp2_with fail
      refine ((unhide HC2) _).mono ?_; rintro e wx ⟨rfl, rfl⟩
      go_wp2_with fail
      exact bodyPost_ret (v := .tuple #[tkV ⟨4, ⟨(((L s).drop k).take 2).toArray⟩, (k : Int)⟩, .int .i64 ((2 : Nat) : Int)]) (by simp [results, Tryd.results28, go_sem, f0, f1, f2]) rfl ⟨⟨4, ⟨(((L s).drop k).take 2).toArray⟩, (k : Int)⟩, rfl, fun _ => rfl, fun h => by simp at h, (((unhide HBX).setCell (Nat.le_refl _) _).setCell (Nat.le_refl _) _).setCell (Nat.le_refl _) _⟩
set_option maxRecDepth 100000 in
set_option maxHeartbeats 8000000 in
theorem rtoken_m1 (b o n c k : Nat) (s : ByteArray) (w : World) (hn : s.size = n) (hS : Src w (some ⟨b, o, none⟩) s) (hk : k < n) (hl : n ≤ 1000000) (hc : n ≤ c)
    (hks : k < s.size) (hlet : Lx.isLet s[k] = false) (hdig : Lx.isDig s[k] = false) (h45 : s[k] = 45) (hk2 : ¬ k + 1 < s.size) (hno : (s[k] == 45 && Lx.nxD ((L s).drop (k + 1))) = false) :
    Calls Tryd.prog 28 #[.slice (some ⟨b, o, none⟩) n c, .int .i64 (k : Int)] w (RTok k (Lx.tok1 ((L s).drop k)) w) := by
  have hb0 := (Below.refl w.heap.size w).alloc (Nat.le_refl _) (.cells #[.int .i64 0, .string ⟨#[]⟩, .int .i64 0] 41)
  have hS1 := hS.keep hb0
  obtain ⟨b', o', e', hlt, hcl⟩ := hS.cell (by omega)
  obtain ⟨rfl, rfl⟩ : b = b' ∧ o = o' := by injection e' with e'; injection e' with e1 e2 e3; exact ⟨e1, e2⟩
  have hck := (cell_block (hb0.block b hlt)).trans (hcl k hks)
  have hx := tok_rest (r := (L s).drop (k + 1)) hlet hdig hno
  have hone : [s[k]] = ((L s).drop k).take 1 := by rw [L_drop s k hks]; rfl
  rw [hone, ← L_drop s k hks] at hx
  have hrl := fun W => rlet_any s[k] W
  rw [hlet] at hrl
  have hrd := fun W => rdig_any s[k] W
  rw [hdig] at hrd
  have hlr : ((L s).drop (k + 1)).length = n - (k + 1) := by rw [List.length_drop, L_len, hn]
  rw [hlr] at hx
  have hq := rquoted_any (some ⟨b, o + k, none⟩) (n - k) (c - k) (s.extract k s.size) _ (by rw [ByteArray.size_extract]; omega) (hS1.tail k (by omega)) (by omega)
  rw [L_tail] at hq
  unfold RqIs at hq
  have hs1 := fun W => rsign_any ⟨(((L s).drop k).take 1).toArray⟩ W
  rw [L_mk] at hs1
  have hs2 := fun W => rsign_any ⟨(((L s).drop k).take 2).toArray⟩ W
  rw [L_mk] at hs2
  generalize rqV ((L s).drop k) = x at hx hq
  obtain ⟨x1, x2⟩ := x
  simp only at hx hq
  generalize Lx.sgnP (((L s).drop k).take 1) = b1 at hx hs1
  generalize Lx.sgnP (((L s).drop k).take 2) = b2 at hx hs2
  have HRL := hide hrl; have HRD := hide hrd; have HQ := hide hq; have HN := hide hn; have HS1 := hide hS1; have HA1 := hide hs1; have HA2 := hide hs2; have HX := hide hx
  clear hrl hrd hq hn hS hS1 hcl hlet hdig hno e' hb0 hlr hs1 hs2 hx hone
  have q45 : ((s[k].toNat : Int) == 45) = true := by rw [h45]; rfl
  clear h45
  have hk3 : ¬ k + 1 < n := by have := unhide HN; omega
  have hlt1 : ¬ (k : Int) + 1 < (n : Int) := by omega
  by_cases h0 : x2 ≠ 0
  · have hxp : (0 : Int) < (x2 : Int) := by omega
    have hx := unhide HX
    rw [if_pos h0] at hx
    rw [hx]
    clear hx HX h0
    go_enter Tryd.func28, Tryd.ntmps28
    go_wp2_with fail
    refine ((unhide HRL) _).mono ?_; rintro e wx ⟨rfl, rfl⟩
    go_wp2_with fail
    refine ((unhide HRD) _).mono ?_; rintro e wx ⟨rfl, rfl⟩
    go_wp2_with fail
    refine (unhide HQ).mono ?_; rintro e w2 ⟨rfl, hbq⟩
    have HBX := hide (((Below.refl w.heap.size w).alloc (Nat.le_refl _) _).trans (hbq.mono (by simp)))
    have hblk := hbq.block w.heap.size (by simp)
    have f0 : w2.cell? ⟨w.heap.size, 0, none⟩ = some (.int .i64 0) := (cell_block hblk).trans (by go_simp)
    have f1 : w2.cell? ⟨w.heap.size, 1, none⟩ = some (.string ⟨#[]⟩) := (cell_block hblk).trans (by go_simp)
    have f2 : w2.cell? ⟨w.heap.size, 2, none⟩ = some (.int .i64 0) := (cell_block hblk).trans (by go_simp)
    have g0 : w2.frozen? ⟨w.heap.size, 0, none⟩ = false := (World.frozen?_of_block hblk).trans (by go_simp)
    have g1 : w2.frozen? ⟨w.heap.size, 1, none⟩ = false := (World.frozen?_of_block hblk).trans (by go_simp)
    have g2 : w2.frozen? ⟨w.heap.size, 2, none⟩ = false := (World.frozen?_of_block hblk).trans (by go_simp)
    have hS2 := (unhide HS1).keep (hbq.mono (by simp))
    have hv1 := src_sub hS2 k 1 (by have := unhide HN; omega)
    rw [ext_take s k 1] at hv1
    clear hbq hblk hS2
    go_wp2_with fail
    exact bodyPost_ret (v := .tuple #[tkV ⟨3, ⟨x1.toArray⟩, (k : Int)⟩, .int .i64 ((x2 : Nat) : Int)]) (by simp [results, Tryd.results28, go_sem, f0, f1, f2]) rfl ⟨⟨3, ⟨x1.toArray⟩, (k : Int)⟩, rfl, fun _ => rfl, fun h => by simp at h, (((unhide HBX).setCell (Nat.le_refl _) _).setCell (Nat.le_refl _) _).setCell (Nat.le_refl _) _⟩
  · have h0' : x2 = 0 := by omega
    subst h0'
    have hx := unhide HX
    rw [if_neg h0] at hx
    clear h0 HX
    rw [if_neg (by rw [decide_eq_false (show ¬ 1 ≤ n - (k + 1) by omega)]; simp)] at hx
    have h1 := unhide HA1
    cases b1
    · rw [if_neg (by simp)] at hx
      rw [hx]
      have HB := hide h1
      clear hx h1 HA1
      go_enter Tryd.func28, Tryd.ntmps28
      go_wp2_with fail
      refine ((unhide HRL) _).mono ?_; rintro e wx ⟨rfl, rfl⟩
      go_wp2_with fail
      refine ((unhide HRD) _).mono ?_; rintro e wx ⟨rfl, rfl⟩
      go_wp2_with fail
      refine (unhide HQ).mono ?_; rintro e w2 ⟨rfl, hbq⟩
      have HBX := hide (((Below.refl w.heap.size w).alloc (Nat.le_refl _) _).trans (hbq.mono (by simp)))
      have hblk := hbq.block w.heap.size (by simp)
      have f0 : w2.cell? ⟨w.heap.size, 0, none⟩ = some (.int .i64 0) := (cell_block hblk).trans (by go_simp)
      have f1 : w2.cell? ⟨w.heap.size, 1, none⟩ = some (.string ⟨#[]⟩) := (cell_block hblk).trans (by go_simp)
      have f2 : w2.cell? ⟨w.heap.size, 2, none⟩ = some (.int .i64 0) := (cell_block hblk).trans (by go_simp)
      have g0 : w2.frozen? ⟨w.heap.size, 0, none⟩ = false := (World.frozen?_of_block hblk).trans (by go_simp)
      have g1 : w2.frozen? ⟨w.heap.size, 1, none⟩ = false := (World.frozen?_of_block hblk).trans (by go_simp)
      have g2 : w2.frozen? ⟨w.heap.size, 2, none⟩ = false := (World.frozen?_of_block hblk).trans (by go_simp)
      have hS2 := (unhide HS1).keep (hbq.mono (by simp))
      have hv1 := src_sub hS2 k 1 (by have := unhide HN; omega)
      rw [ext_take s k 1] at hv1
      clear hbq hblk hS2
      go_wp2_with fail
      refine ((unhide HB) _).mono ?_; rintro e wx ⟨rfl, rfl⟩
      go_wp2_with fail
      exact bodyPost_ret (v := .tuple #[tkV ⟨0, ⟨#[]⟩, 0⟩, .int .i64 ((1 : Nat) : Int)]) (by simp [results, Tryd.results28, go_sem, f0, f1, f2]) rfl ⟨⟨0, ⟨#[]⟩, 0⟩, rfl, fun h => absurd rfl h, fun _ => rfl, (((unhide HBX).setCell (Nat.le_refl _) _).setCell (Nat.le_refl _) _).setCell (Nat.le_refl _) _⟩
    · rw [if_pos (by simp)] at hx
      rw [hx]
      have HB := hide h1
      clear hx h1 HA1
      go_enter Tryd.func28, Tryd.ntmps28
      go_wp2_with fail
      refine ((unhide HRL) _).mono ?_; rintro e wx ⟨rfl, rfl⟩
      go_wp2_with fail
      refine ((unhide HRD) _).mono ?_; rintro e wx ⟨rfl, rfl⟩
      go_wp2_with fail
      refine (unhide HQ).mono ?_; rintro e w2 ⟨rfl, hbq⟩
      have HBX := hide (((Below.refl w.heap.size w).alloc (Nat.le_refl _) _).trans (hbq.mono (by simp)))
      have hblk := hbq.block w.heap.size (by simp)
      have f0 : w2.cell? ⟨w.heap.size, 0, none⟩ = some (.int .i64 0) := (cell_block hblk).trans (by go_simp)
      have f1 : w2.cell? ⟨w.heap.size, 1, none⟩ = some (.string ⟨#[]⟩) := (cell_block hblk).trans (by go_simp)
      have f2 : w2.cell? ⟨w.heap.size, 2, none⟩ = some (.int .i64 0) := (cell_block hblk).trans (by go_simp)
      have g0 : w2.frozen? ⟨w.heap.size, 0, none⟩ = false := (World.frozen?_of_block hblk).trans (by go_simp)
      have g1 : w2.frozen? ⟨w.heap.size, 1, none⟩ = false := (World.frozen?_of_block hblk).trans (by go_simp)
      have g2 : w2.frozen? ⟨w.heap.size, 2, none⟩ = false := (World.frozen?_of_block hblk).trans (by go_simp)
      have hS2 := (unhide HS1).keep (hbq.mono (by simp))
      have hv1 := src_sub hS2 k 1 (by have := unhide HN; omega)
      rw [ext_take s k 1] at hv1
      clear hbq hblk hS2
      go_wp2_with fail
      refine ((unhide HB) _).mono ?_; rintro e wx ⟨rfl, rfl⟩
      go_wp2_with fail
      exact bodyPost_ret (v := .tuple #[tkV ⟨4, ⟨(((L s).drop k).take 1).toArray⟩, (k : Int)⟩, .int .i64 ((1 : Nat) : Int)]) (by simp [results, Tryd.results28, go_sem, f0, f1, f2]) rfl ⟨⟨4, ⟨(((L s).drop k).take 1).toArray⟩, (k : Int)⟩, rfl, fun _ => rfl, fun h => by simp at h, (((unhide HBX).setCell (Nat.le_refl _) _).setCell (Nat.le_refl _) _).setCell (Nat.le_refl _) _⟩
theorem rtoken_any (A : Option Addr) (n c k : Nat) (s : ByteArray) (w : World) (hn : s.size = n) (hS : Src w A s) (hk : k < n) (hl : n ≤ 1000000) (hc : n ≤ c) :
    Calls Tryd.prog 28 #[.slice A n c, .int .i64 (k : Int)] w (RTok k (Lx.tok1 ((L s).drop k)) w) := by
  obtain ⟨b, o, rfl, _, _⟩ := hS.cell (by omega)
  have hks : k < s.size := by omega
  by_cases h1 : Lx.cls s[k] = 1
  · exact rtoken_word b o n c k s w hn hS hk hl hc hks h1
  have hlet : Lx.isLet s[k] = false := by rw [Bool.eq_false_iff]; exact fun e => h1 ((Lx.isLet_of _).1 e)
  cases hdig : Lx.isDig s[k]
  · by_cases h45 : s[k] = 45
    · by_cases hk2 : k + 1 < s.size
      · have hd2 := L_drop s (k + 1) hk2
        cases hdig2 : Lx.isDig s[k + 1]
        · exact rtoken_m2 b o n c k s w hn hS hk hl hc hks hlet hdig h45 hk2 hdig2 (by rw [hd2]; show (s[k] == 45 && Lx.isDig s[k + 1]) = false; rw [hdig2, Bool.and_false])
        · exact rtoken_neg b o n c k s w hn hS hk hl hc hks hlet hdig h45 hk2 hdig2 (by rw [hd2]; show (Lx.isDig s[k] || (s[k] == 45 && Lx.isDig s[k + 1])) = true; rw [hdig2, h45]; rfl)
      · exact rtoken_m1 b o n c k s w hn hS hk hl hc hks hlet hdig h45 hk2 (by rw [List.drop_of_length_le (by rw [L_len]; omega)]; show (s[k] == 45 && false) = false; rw [Bool.and_false])
    · exact rtoken_rest b o n c k s w hn hS hk hl hc hks hlet hdig h45 (by rw [show (s[k] == 45) = false from beq_eq_false_iff_ne.2 h45]; rfl)
  · exact rtoken_dig b o n c k s w hn hS hk hl hc hks hlet hdig (by rw [hdig]; rfl)
end Go.Proofs.YtjppjbkndfbnhaaDoor
