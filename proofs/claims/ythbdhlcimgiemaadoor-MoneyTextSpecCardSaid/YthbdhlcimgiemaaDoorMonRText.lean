/- Contracts over the program of money: the reference's Text. -/
import Derived.Test.YthbdhlcimgiemaaDoorMonDig
namespace Go.Proofs.YthbdhlcimgiemaaDoor
set_option linter.unusedSimpArgs false
set_option linter.unusedVariables false
open Go.RowKit

theorem bytes_app (a b : List UInt8) : (⟨a.toArray⟩ : ByteArray) ++ ⟨b.toArray⟩ = ⟨(a ++ b).toArray⟩ := by
  apply ByteArray.ext
  rw [ByteArray.data_append]
  apply Array.toList_inj.1
  simp
theorem cents_lo {u : Nat} (h : u % 100 < 10) : 48 :: Lib.decDigits (u % 100) = [UInt8.ofNat (48 + u % 100 / 10), UInt8.ofNat (48 + u % 10)] := by
  rw [Lib.decDigits_one h, show u % 100 / 10 = 0 by omega, show u % 100 = u % 10 by omega]
  rfl
theorem cents_hi {u : Nat} (h : ¬ u % 100 < 10) : Lib.decDigits (u % 100) = [UInt8.ofNat (48 + u % 100 / 10), UInt8.ofNat (48 + u % 10)] := by
  rw [Lib.decDigits, dif_neg h, Lib.decDigits_one (by omega), show u % 100 % 10 = u % 10 by omega]
  rfl
theorem text_lo {u : Nat} (h : u % 100 < 10) : digS (u / 100) ++ ⟨#[46]⟩ ++ (⟨#[48]⟩ ++ digS (u % 100)) = (⟨(textU u).toArray⟩ : ByteArray) := by
  unfold digS textU tailU
  rw [show (⟨#[46]⟩ : ByteArray) = ⟨[46].toArray⟩ from rfl, show (⟨#[48]⟩ : ByteArray) = ⟨[48].toArray⟩ from rfl, bytes_app, bytes_app, bytes_app, List.cons_append, List.nil_append, cents_lo h, List.append_assoc]
  rfl
theorem text_hi {u : Nat} (h : ¬ u % 100 < 10) : digS (u / 100) ++ ⟨#[46]⟩ ++ digS (u % 100) = (⟨(textU u).toArray⟩ : ByteArray) := by
  unfold digS textU tailU
  rw [show (⟨#[46]⟩ : ByteArray) = ⟨[46].toArray⟩ from rfl, bytes_app, bytes_app, cents_hi h, List.append_assoc]
  rfl
theorem neg_app (l : List UInt8) : (⟨#[45]⟩ : ByteArray) ++ ⟨l.toArray⟩ = ⟨(45 :: l).toArray⟩ := bytes_app [45] l
theorem rtext_no (n : Int) (w : World) (h : ¬ Am n) :
    Calls Tryd.prog 21 #[.int .i64 n] w fun e w' => e = .returned (.tuple #[.string ⟨#[]⟩, .int .i64 50]) ∧ w' = w := by
  go_enter Tryd.func21, Tryd.ntmps21
  go_wp2_with fail
  refine (rcheck_no n _ h).mono ?_; rintro e w' ⟨rfl, rfl⟩
  go_wp2_with fail
  go_ret2
  exact ⟨rfl, rfl⟩
def RTextIs (n : Int) (w : World) (e : Ending) (w' : World) : Prop := e = .returned (.tuple #[.string (textS n), .int .i64 0]) ∧ w' = w
theorem emp_app (q : ByteArray) : (⟨#[]⟩ : ByteArray) ++ q = q := by
  apply ByteArray.ext
  rw [ByteArray.data_append]
  simp
theorem ret2S {a b : ByteArray} (h : a = b) : Ending.returned (.tuple #[.string a, .int .i64 0]) = .returned (.tuple #[.string b, .int .i64 0]) := by rw [h]
theorem neg_join (q d x : ByteArray) : (⟨#[45]⟩ : ByteArray) ++ q ++ d ++ x = ⟨#[45]⟩ ++ (q ++ d ++ x) := by
  rw [ByteArray.append_assoc, ByteArray.append_assoc, ByteArray.append_assoc]
set_option maxRecDepth 100000 in
set_option maxHeartbeats 4000000 in
theorem rtext_pos (u : Nat) (w : World) (h : Am (u : Int)) : Calls Tryd.prog 21 #[.int .i64 (u : Int)] w (RTextIs (u : Int) w) := by
  have ht : textS (u : Int) = ⟨(textU u).toArray⟩ := by unfold textS textB; rw [if_neg (by omega)]; rfl
  unfold RTextIs
  rw [ht]
  have h2 := h.2
  have hu0 : (0 : Int) ≤ (u : Int) := Int.natCast_nonneg _
  have hd1 := fun W => rdec_pos (u % 100) W (by omega)
  have hd2 := fun W => rdec_pos (u / 100) W (by omega)
  rw [itoS_nat] at hd1 hd2
  have m1 : ((u % 100 : Nat) : Int) = (u : Int) % 100 := by omega
  have m2 : ((u / 100 : Nat) : Int) = (u : Int) / 100 := by omega
  rw [m1] at hd1
  rw [m2] at hd2
  have z1 : (digS (u % 100)).size ≤ 20 := digS_size (by omega)
  have z2 : (digS (u / 100)).size ≤ 20 := digS_size (by omega)
  by_cases hc : u % 100 < 10
  · have hx := text_lo hc
    have hlt : (u : Int) % 100 < 10 := by omega
    generalize digS (u % 100) = c at *
    generalize digS (u / 100) = q at *
    have HD1 := hide hd1; have HD2 := hide hd2; have HX := hide hx
    clear hd1 hd2 hx ht m1 m2
    go_enter Tryd.func21, Tryd.ntmps21
    go_wp2_with fail
    refine (rcheck_ok _ _ h).mono ?_; rintro e w' ⟨rfl, rfl⟩
    go_wp2_with fail
    refine ((unhide HD1) _).mono ?_; rintro e w' ⟨rfl, rfl⟩
    go_wp2_with fail
    refine ((unhide HD2) _).mono ?_; rintro e w' ⟨rfl, rfl⟩
    go_wp2_with fail
    go_ret2
    exact ⟨ret2S (by rw [← unhide HX, emp_app]), rfl⟩
  · have hx := text_hi hc
    have hlt : ¬ (u : Int) % 100 < 10 := by omega
    generalize digS (u % 100) = c at *
    generalize digS (u / 100) = q at *
    have HD1 := hide hd1; have HD2 := hide hd2; have HX := hide hx
    clear hd1 hd2 hx ht m1 m2
    go_enter Tryd.func21, Tryd.ntmps21
    go_wp2_with fail
    refine (rcheck_ok _ _ h).mono ?_; rintro e w' ⟨rfl, rfl⟩
    go_wp2_with fail
    refine ((unhide HD1) _).mono ?_; rintro e w' ⟨rfl, rfl⟩
    go_wp2_with fail
    refine ((unhide HD2) _).mono ?_; rintro e w' ⟨rfl, rfl⟩
    go_wp2_with fail
    go_ret2
    exact ⟨ret2S (by rw [← unhide HX, emp_app]), rfl⟩
set_option maxRecDepth 100000 in
set_option maxHeartbeats 4000000 in
theorem rtext_neg (n : Int) (w : World) (h : Am n) (hn : n < 0) : Calls Tryd.prog 21 #[.int .i64 n] w (RTextIs n w) := by
  obtain ⟨u, hu⟩ : ∃ u : Nat, n.natAbs = u := ⟨_, rfl⟩
  have ht : textS n = ⟨#[45]⟩ ++ ⟨(textU u).toArray⟩ := by unfold textS textB; rw [if_pos hn, hu, neg_app]
  unfold RTextIs
  rw [ht]
  have h1 := h.1
  have h2 : (u : Int) ≤ 1125899906842624 := by omega
  have hm : IntKind.i64.wrap (-n) = (u : Int) := by
    rw [show -n = (u : Int) by omega]
    exact IntWalk.i64_in _ (by omega)
  have hu0 : (0 : Int) ≤ (u : Int) := Int.natCast_nonneg _
  have hd1 := fun W => rdec_pos (u % 100) W (by omega)
  have hd2 := fun W => rdec_pos (u / 100) W (by omega)
  rw [itoS_nat] at hd1 hd2
  have m1 : ((u % 100 : Nat) : Int) = (u : Int) % 100 := by omega
  have m2 : ((u / 100 : Nat) : Int) = (u : Int) / 100 := by omega
  rw [m1] at hd1
  rw [m2] at hd2
  have z1 : (digS (u % 100)).size ≤ 20 := digS_size (by omega)
  have z2 : (digS (u / 100)).size ≤ 20 := digS_size (by omega)
  by_cases hc : u % 100 < 10
  · have hx := text_lo hc
    have hlt : (u : Int) % 100 < 10 := by omega
    generalize digS (u % 100) = c at *
    generalize digS (u / 100) = q at *
    have HD1 := hide hd1; have HD2 := hide hd2; have HX := hide hx
    clear hd1 hd2 hx ht m1 m2 hu
    go_enter Tryd.func21, Tryd.ntmps21
    go_wp2_with fail
    refine (rcheck_ok _ _ h).mono ?_; rintro e w' ⟨rfl, rfl⟩
    go_wp2_with fail
    refine ((unhide HD1) _).mono ?_; rintro e w' ⟨rfl, rfl⟩
    go_wp2_with fail
    refine ((unhide HD2) _).mono ?_; rintro e w' ⟨rfl, rfl⟩
    go_wp2_with fail
    go_ret2
    exact ⟨ret2S (by rw [← unhide HX, neg_join]), rfl⟩
  · have hx := text_hi hc
    have hlt : ¬ (u : Int) % 100 < 10 := by omega
    generalize digS (u % 100) = c at *
    generalize digS (u / 100) = q at *
    have HD1 := hide hd1; have HD2 := hide hd2; have HX := hide hx
    clear hd1 hd2 hx ht m1 m2 hu
    go_enter Tryd.func21, Tryd.ntmps21
    go_wp2_with fail
    refine (rcheck_ok _ _ h).mono ?_; rintro e w' ⟨rfl, rfl⟩
    go_wp2_with fail
    refine ((unhide HD1) _).mono ?_; rintro e w' ⟨rfl, rfl⟩
    go_wp2_with fail
    refine ((unhide HD2) _).mono ?_; rintro e w' ⟨rfl, rfl⟩
    go_wp2_with fail
    go_ret2
    exact ⟨ret2S (by rw [← unhide HX, neg_join]), rfl⟩
theorem rtext_any (n : Int) (w : World) (h : Am n) : Calls Tryd.prog 21 #[.int .i64 n] w (RTextIs n w) := by
  by_cases hn : n < 0
  · exact rtext_neg n w h hn
  · obtain ⟨u, rfl⟩ : ∃ u : Nat, n = (u : Int) := ⟨n.toNat, by omega⟩
    exact rtext_pos u w h
end Go.Proofs.YthbdhlcimgiemaaDoor
