/- Contracts over the program of money: the library's conversions of numbers and texts. -/
import Derived.Test.YthbdhlcimgiemaaDoorMonBase
import Derived.Test.YthbdhlcimgiemaaDoorMonShelf2
import Derived.Shelf.Vars
import Derived.Shelf.Strings.Replace
import Derived.Lib.ItoaLen
import Derived.Lib.CountLaws
namespace Go.Proofs.YthbdhlcimgiemaaDoor
set_option linter.unusedSimpArgs false
set_option linter.unusedVariables false
open Go.RowKit

/-- the package-level variables that the library reads, in every world that leaves them alone -/
abbrev gTop : Nat := 7 + 1
structure EnvAt (w' : World) : Prop where
  pow : Lib.TabIs Tryd.prog w' "internal/strconv.uint64pow10" .u64 Lib.pow10Tab
  syn : ∃ t p, w'.cell? ⟨0, 0, none⟩ = some (.iface t p)
  ran : ∃ t p, w'.cell? ⟨1, 0, none⟩ = some (.iface t p)
  max : ∃ m, w'.cell? ⟨2, 0, none⟩ = some (.int .i64 m)
structure Env (w : World) : Prop where
  all : ∀ w', Below gTop w w' → EnvAt w'
  top : gTop ≤ w.heap.size
theorem Env.along {w w' : World} (h : Env w) (hb : Below w.heap.size w w') : Env w' :=
  ⟨fun w'' h' => h.all w'' ((hb.mono h.top).trans h'), Nat.le_trans h.top hb.size⟩

/-- strconv.Atoi, as one contract -/
def AtoiIs (l : List UInt8) (w : World) (e : Ending) (w' : World) : Prop :=
  (match Lib.atoiAll l with
    | .ok v => e = .returned (.tuple #[.int .i64 v, .nilIface])
    | _ => ∃ n t p, e = .returned (.tuple #[.int .i64 n, .iface t p])) ∧ Below w.heap.size w w'
theorem numEnd_cases (e : Lib.NumEnd Int) : (∃ v, e = .ok v) ∨ e = Lib.atoiAll [] ∨ e = .range := by
  cases e <;> first | exact .inl ⟨_, rfl⟩ | exact .inr (.inl rfl) | exact .inr (.inr rfl)
theorem atoi_any (s : ByteArray) (w : World) (hs : s.size ≤ 140737488351232) (hE : Env w) : Calls Tryd.prog 29 #[.string s] w (AtoiIs s.data.toList w) := by
  obtain ⟨_, ⟨t1, p1, h1⟩, ⟨t2, p2, h2⟩, _⟩ := hE.all w (Below.refl _ _)
  rcases numEnd_cases (Lib.atoiAll s.data.toList) with ⟨v, h⟩ | h | h
  · refine (Tryd.strconv_Atoi_ok s (by omega) v h w).mono ?_
    rintro e w' ⟨rfl, hw'⟩
    refine ⟨by rw [h], ?_⟩
    rcases hw' with rfl | ⟨t, rfl⟩
    · exact Below.refl _ _
    · exact Lib.bytesWorld_below _ _ _
  · refine (Tryd.strconv_Atoi_syntax s (by omega) h _ w h1 (.inr ⟨_, _, rfl⟩)).mono ?_
    rintro e w' ⟨N, rfl, _, _, hb⟩
    exact ⟨by rw [h]; exact ⟨_, _, _, rfl⟩, hb⟩
  · refine (Tryd.strconv_Atoi_range s (by omega) h _ w h2 (.inr ⟨_, _, rfl⟩)).mono ?_
    rintro e w' ⟨N, rfl, _, _, hb⟩
    exact ⟨by rw [h]; exact ⟨_, _, _, rfl⟩, hb⟩

theorem builder_extra : Builder.Extra Tryd.prog Tryd.lays154_ren where
  sizeBuilder := by kernel_rfl
  liesBuilder := by kernel_rfl
  t5 := Tryd.underlying5
  a5 := Tryd.isAgg5
  z5 := Tryd.sizeOf5
  v5 := Tryd.zeroValue5
  infoByte := by kernel_rfl
  cellsByte := by kernel_rfl
  sizeByte := by kernel_rfl
  neB5 := by decide
abbrev dotS : ByteArray := ⟨#[46]⟩
abbrev noS : ByteArray := ⟨#[]⟩
/-- without its first point -/
def noDot (l : List UInt8) : List UInt8 := Lib.replace l [46] [] 1
theorem replace_any (s : ByteArray) (w : World) (hs : s.size ≤ 1000000) (hE : Env w) :
    Calls Tryd.prog 30 #[.string s, .string dotS, .string noS, .int .i64 1] w fun e w' => e = .returned (.string ⟨(noDot s.data.toList).toArray⟩) ∧ Below w.heap.size w w' := by
  obtain ⟨m, hm⟩ := (hE.all w (Below.refl _ _)).max
  exact Go.Proofs.Any.strings_Replace Tryd.lays154 builder_extra s dotS noS 1 m w (by omega) hm (by decide) (by show s.size + _ * 0 ≤ _; omega)
theorem noDot_len (l : List UInt8) : (noDot l).length ≤ l.length := by
  unfold noDot Lib.replace
  split
  · exact Nat.le_refl _
  · have hk : ∀ (k : Nat) (l : List UInt8), (Lib.replaceK [46] [] k l).length ≤ l.length := by
      intro k
      induction k with
      | zero => intro l; exact Nat.le_refl _
      | succ k ih =>
        intro l
        unfold Lib.replaceK
        split
        · exact Nat.le_refl _
        · have := ih (l.drop ((Lib.index l [46]).toNat + [(46 : UInt8)].length))
          simp only [List.length_append, List.length_take, List.length_nil, List.length_drop, List.length_cons] at this ⊢
          omega
    exact hk _ _
theorem noDot_at {a b : List UInt8} (ha : ∀ x ∈ a, x ≠ 46) : noDot (a ++ 46 :: b) = a ++ b := by
  have hi : Lib.index (a ++ 46 :: b) [46] = a.length := by
    rw [Lib.index_one]
    induction a with
    | nil => simp [Lib.indexByte]
    | cons x r ih =>
      have h1 := ha x List.mem_cons_self
      have h2 := ih fun y hy => ha y (List.mem_cons_of_mem _ hy)
      simp only [List.cons_append]
      unfold Lib.indexByte
      rw [h2]
      simp [h1]
  have hc := Lib.count_hit (sub := [46]) (by decide) hi
  unfold noDot Lib.replace
  rw [if_neg (by decide)]
  have hn : Lib.replaceNum (a ++ 46 :: b) [46] 1 = 1 := by
    unfold Lib.replaceNum
    rw [if_neg (by omega)]
    rfl
  rw [hn, Lib.replaceK_hit _ _ _ _ _ hi]
  simp [Lib.replaceK]
theorem dig_toNat {d : Nat} (h : d < 10) : (UInt8.ofNat (48 + d)).toNat = 48 + d := by
  rw [UInt8.toNat_ofNat']
  exact Nat.mod_eq_of_lt (by omega)
theorem pu_digits (u : Nat) : ∀ (r : List UInt8), u < 18446744073709551616 → Lib.parseUint10 0 (Lib.decDigits u ++ r) = Lib.parseUint10 u r := by
  induction u using Nat.strongRecOn with
  | _ u ih =>
    intro r hu
    by_cases h : u < 10
    · rw [Lib.decDigits_one h]
      simp only [List.cons_append, List.nil_append, Lib.parseUint10, dig_toNat h]
      rw [if_pos (by omega), if_neg (by omega), if_neg (by omega)]
      congr 1; omega
    · rw [Lib.decDigits, dif_neg h, List.append_assoc, ih (u / 10) (by omega) _ (by omega)]
      have hm : u % 10 < 10 := Nat.mod_lt _ (by decide)
      simp only [List.cons_append, List.nil_append, Lib.parseUint10, dig_toNat hm]
      rw [if_pos (by omega), if_neg (by omega), if_neg (by omega)]
      congr 1; omega
theorem dd_mem (u : Nat) : ∀ b ∈ Lib.decDigits u, 48 ≤ b.toNat ∧ b.toNat ≤ 57 := by
  induction u using Nat.strongRecOn with
  | _ u ih =>
    intro b hb
    by_cases h : u < 10
    · rw [Lib.decDigits_one h] at hb
      obtain rfl := List.mem_singleton.1 hb
      rw [dig_toNat h]
      omega
    · have hm : u % 10 < 10 := Nat.mod_lt _ (by decide)
      rw [Lib.decDigits, dif_neg h] at hb
      rcases List.mem_append.1 hb with hb | hb
      · exact ih (u / 10) (by omega) b hb
      · obtain rfl := List.mem_singleton.1 hb
        rw [dig_toNat hm]
        omega
theorem dd_ne (u : Nat) : Lib.decDigits u ≠ [] := by
  intro h
  have := Lib.decDigits_length u
  rw [h] at this
  have := Lib.nDigits_pos u
  simp at *
  omega
end Go.Proofs.YthbdhlcimgiemaaDoor
