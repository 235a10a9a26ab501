/- Contracts over the program of lexis: the chapter's examples. -/
import Derived.Test.YtjppjbkndfbnhaaDoorLexN
import Derived.Test.YtjppjbkndfbnhaaDoorLexL
import Derived.Lib.SlBytesConst
namespace Go.Proofs.YtjppjbkndfbnhaaDoor
set_option linter.unusedSimpArgs false
set_option linter.unusedVariables false
open Go.RowKit

def ex1 : ByteArray := ⟨#[97, 62, 61, 45, 53]⟩
def ex2 : ByteArray := ⟨#[48, 48, 55, 37, 36]⟩
def ex3 : ByteArray := ⟨#[34, 97, 92, 34, 98, 34]⟩
def ex4 : ByteArray := ⟨#[34, 97]⟩
def tk1L : List Lx.Tk := [⟨1, ⟨#[97]⟩, 0⟩, ⟨4, ⟨#[62, 61]⟩, 1⟩, ⟨2, ⟨#[45, 53]⟩, 3⟩, ⟨5, ⟨#[]⟩, 5⟩]
def tk3L : List Lx.Tk := [⟨3, ⟨#[97, 34, 98]⟩, 0⟩, ⟨5, ⟨#[]⟩, 6⟩]
def tk4L : List Lx.Tk := [⟨1, ⟨#[97]⟩, 1⟩, ⟨5, ⟨#[]⟩, 2⟩]
theorem toks1 : Lx.toks (L ex1) = (tk1L, []) := by decide +kernel
theorem toks2 : Lx.toks (L ex2) = ([⟨5, ⟨#[]⟩, 5⟩], [0]) := by decide +kernel
theorem toks3 : Lx.toks (L ex3) = (tk3L, []) := by decide +kernel
theorem toks4 : Lx.toks (L ex4) = (tk4L, [0]) := by decide +kernel
/-- Tokens at bytes that lie in a new block -/
def TkEnd (T : List Lx.Tk) (P : List Int) (w : World) (e : Ending) (w' : World) : Prop :=
  ∃ A c B d, e = .returned (.tuple #[.slice A T.length c, .slice B P.length d, .int .i64 0]) ∧ TkAt w' A T ∧ T.length ≤ c ∧ (A = none → c = 0) ∧ PbAt w' B P ∧ Below w.heap.size w w'
theorem tokens_src (A : Option Addr) (n c : Nat) (s : ByteArray) (w : World) (hn : s.size = n) (h : n ≤ 65536) (hS : Src w A s) (hT : Tab w) :
    Calls Tryd.prog 12 #[.slice A n c] w (TkEnd (Lx.toks (L s)).1 (Lx.toks (L s)).2 w) := by
  refine (tokens_yes A n c s w hn h hS hT).mono ?_
  rintro e w' ⟨v, u, rfl, hv, hu, hb⟩
  obtain ⟨A1, c1, rfl, h1, h2, h3⟩ := own_tk hv
  obtain ⟨B1, d1, rfl, h4, _⟩ := own_pb hu
  exact ⟨A1, c1, B1, d1, rfl, h1, h2, h3, h4, hb⟩
theorem src_new (w : World) (s : ByteArray) (cs : Array Value) (t : TypeId) (fz : Nat × Nat) (h : cs.toList = Lib.byteCells (L s)) : Src (w.alloc (.cells cs t fz)) (some ⟨w.heap.size, 0, none⟩) s := by
  refine .inr ⟨w.heap.size, 0, rfl, by simp, fun i hi => ?_⟩
  have hc : cs[i]? = some (.int .u8 (s[i].toNat : Int)) := by
    rw [← Array.getElem?_toList, h]
    unfold Lib.byteCells
    rw [List.getElem?_map, List.getElem?_eq_getElem (by rw [L_len]; exact hi)]
    rfl
  rw [Nat.zero_add, World.cell?_alloc_mark]
  exact hc
theorem conv_new {w : World} {fz : Nat × Nat} (cs : Array Value) (t : TypeId) (j : Nat) (v : Value) (h : cs[j]? = some v) : (w.alloc (.cells cs t fz)).cell? ⟨w.heap.size, j, none⟩ = some v := by rw [World.cell?_alloc_mark]; exact h
theorem place_ex : placeV (L ⟨#[97, 98, 10, 99]⟩) 4 = (2, 2, 0) := by decide +kernel
theorem join_ex1 : Lx.joinR [⟨5, ⟨#[]⟩, 0⟩] = some [] := by decide +kernel
theorem kw_ex1 : kwP (L ⟨#[112, 111, 105, 110, 116, 115]⟩) = true := by decide +kernel
theorem kw_ex2 : kwP (L ⟨#[80, 111, 105, 110, 116, 115]⟩) = false := by decide +kernel
theorem tk_new (w : World) (cs : Array Value) (l : List Lx.Tk) (t : TypeId) (fz : Nat × Nat) (h : cs.toList = tkCells l) : TkAt (w.alloc (.cells cs t fz)) (some ⟨w.heap.size, 0, none⟩) l := by
  refine ⟨fun _ => ⟨_, 0, rfl, by simp, fun j t hj => ?_⟩⟩
  obtain ⟨h0, h1, h2⟩ := tkCells_get hj
  rw [← h, Array.getElem?_toList] at h0 h1 h2
  rw [Nat.zero_add]
  exact ⟨conv_new _ _ _ _ h0, conv_new _ _ _ _ h1, conv_new _ _ _ _ h2⟩
theorem pb_new (w : World) (cs : Array Value) (l : List Int) (t : TypeId) (fz : Nat × Nat) (h : cs.toList = pbCells l) : PbAt (w.alloc (.cells cs t fz)) (some ⟨w.heap.size, 0, none⟩) l := by
  refine ⟨fun _ => ⟨_, 0, rfl, by simp, fun j t hj => ?_⟩⟩
  obtain ⟨h0, h1⟩ := pbCells_get hj
  rw [← h, Array.getElem?_toList] at h0 h1
  rw [Nat.zero_add]
  exact ⟨conv_new _ _ _ _ h0, conv_new _ _ _ _ h1⟩
set_option maxRecDepth 100000 in
set_option maxHeartbeats 8000000 in
theorem sane_any (w : World) (hT : Tab w) : Calls Tryd.prog 11 #[] w (TrueB w) := by
  have kc := fun (w : World) (C : Array Value) (n c : Nat) => Lib.run_convert_bytes_const (P := Tryd.prog) w 22 5 C n c Tryd.underlying22 Tryd.underlying5
  have HT := hide hT
  clear hT
  go_enter Tryd.func11, Tryd.ntmps11
  go_wp2_with fail
  generalize hX : World.alloc _ _ = x1
  have hb : Below w.heap.size w x1 := hX ▸ (Below.refl _ _).alloc (Nat.le_refl _) _
  have hI : Src x1 (some ⟨w.heap.size, 0, none⟩) ex1 := hX ▸ src_new w ex1 _ _ _ rfl
  have HB1a := hide (hb)
  clear hX hb
  refine (tokens_src (some ⟨w.heap.size, 0, none⟩) 5 5 ex1 x1 rfl (by decide) hI ((unhide HT).keep (unhide HB1a))).mono ?_; rintro e w1 ⟨A1, c1, B1, d1, rfl, hA, hc, _, hP, hb⟩
  rw [toks1] at hA hP hc ⊢
  have HB1 := hide (thenB (unhide HB1a) hb)
  have HA1 := hide hA; have HP1 := hide hP
  clear hA hP hc hb hI
  go_wp2_with fail
  generalize hX : World.alloc _ _ = x2
  have hb : Below w1.heap.size w1 x2 := hX ▸ (Below.refl _ _).alloc (Nat.le_refl _) _
  have hI : Src x2 (some ⟨w1.heap.size, 0, none⟩) ex2 := hX ▸ src_new w1 ex2 _ _ _ rfl
  have HB2a := hide (thenB (unhide HB1) hb)
  have HA1 := hide ((unhide HA1).keep hb)
  have HP1 := hide ((unhide HP1).keep hb)
  clear hX hb
  refine (tokens_src (some ⟨w1.heap.size, 0, none⟩) 5 5 ex2 x2 rfl (by decide) hI ((unhide HT).keep (unhide HB2a))).mono ?_; rintro e w2 ⟨A2, c2, B2, d2, rfl, hA, hc, _, hP, hb⟩
  rw [toks2] at hA hP hc ⊢
  have HB2 := hide (thenB (unhide HB2a) hb)
  have HA1 := hide ((unhide HA1).keep hb)
  have HP1 := hide ((unhide HP1).keep hb)
  have HA2 := hide hA; have HP2 := hide hP
  clear hA hP hc hb hI
  go_wp2_with fail
  generalize hX : World.alloc _ _ = x3
  have hb : Below w2.heap.size w2 x3 := hX ▸ (Below.refl _ _).alloc (Nat.le_refl _) _
  have hI : Src x3 (some ⟨w2.heap.size, 0, none⟩) ex3 := hX ▸ src_new w2 ex3 _ _ _ rfl
  have HB3a := hide (thenB (unhide HB2) hb)
  have HA1 := hide ((unhide HA1).keep hb)
  have HP1 := hide ((unhide HP1).keep hb)
  have HA2 := hide ((unhide HA2).keep hb)
  have HP2 := hide ((unhide HP2).keep hb)
  clear hX hb
  refine (tokens_src (some ⟨w2.heap.size, 0, none⟩) 6 6 ex3 x3 rfl (by decide) hI ((unhide HT).keep (unhide HB3a))).mono ?_; rintro e w3 ⟨A3, c3, B3, d3, rfl, hA, hc, _, hP, hb⟩
  rw [toks3] at hA hP hc ⊢
  have HB3 := hide (thenB (unhide HB3a) hb)
  have HA1 := hide ((unhide HA1).keep hb)
  have HP1 := hide ((unhide HP1).keep hb)
  have HA2 := hide ((unhide HA2).keep hb)
  have HP2 := hide ((unhide HP2).keep hb)
  have HA3 := hide hA; have HP3 := hide hP
  clear hA hP hc hb hI
  go_wp2_with fail
  generalize hX : World.alloc _ _ = x4
  have hb : Below w3.heap.size w3 x4 := hX ▸ (Below.refl _ _).alloc (Nat.le_refl _) _
  have hI : Src x4 (some ⟨w3.heap.size, 0, none⟩) ex4 := hX ▸ src_new w3 ex4 _ _ _ rfl
  have HB4a := hide (thenB (unhide HB3) hb)
  have HA1 := hide ((unhide HA1).keep hb)
  have HP1 := hide ((unhide HP1).keep hb)
  have HA2 := hide ((unhide HA2).keep hb)
  have HP2 := hide ((unhide HP2).keep hb)
  have HA3 := hide ((unhide HA3).keep hb)
  have HP3 := hide ((unhide HP3).keep hb)
  clear hX hb
  refine (tokens_src (some ⟨w3.heap.size, 0, none⟩) 2 2 ex4 x4 rfl (by decide) hI ((unhide HT).keep (unhide HB4a))).mono ?_; rintro e w4 ⟨A4, c4, B4, d4, rfl, hA, hc, _, hP, hb⟩
  rw [toks4] at hA hP hc ⊢
  have HB4 := hide (thenB (unhide HB4a) hb)
  have HA1 := hide ((unhide HA1).keep hb)
  have HP1 := hide ((unhide HP1).keep hb)
  have HA2 := hide ((unhide HA2).keep hb)
  have HP2 := hide ((unhide HP2).keep hb)
  have HA3 := hide ((unhide HA3).keep hb)
  have HP3 := hide ((unhide HP3).keep hb)
  have HA4 := hide hA; have HP4 := hide hP
  clear hA hP hc hb hI
  go_wp2_with fail
  generalize hX : World.alloc _ _ = x5
  have hb : Below w4.heap.size w4 x5 := hX ▸ (Below.refl _ _).alloc (Nat.le_refl _) _
  have hI : TkAt x5 (some ⟨w4.heap.size, 0, none⟩) [⟨5, ⟨#[]⟩, 0⟩] := hX ▸ tk_new w4 _ _ _ _ rfl
  have HB5a := hide (thenB (unhide HB4) hb)
  have HA1 := hide ((unhide HA1).keep hb)
  have HP1 := hide ((unhide HP1).keep hb)
  have HA2 := hide ((unhide HA2).keep hb)
  have HP2 := hide ((unhide HP2).keep hb)
  have HA3 := hide ((unhide HA3).keep hb)
  have HP3 := hide ((unhide HP3).keep hb)
  have HA4 := hide ((unhide HA4).keep hb)
  have HP4 := hide ((unhide HP4).keep hb)
  clear hX hb
  refine (join_any (some ⟨w4.heap.size, 0, none⟩) 1 1 [⟨5, ⟨#[]⟩, 0⟩] x5 rfl hI ((unhide HT).keep (unhide HB5a)) (by decide) (by decide)).mono ?_; rintro e w5 ⟨hb, hm⟩
  rw [join_ex1] at hm
  obtain ⟨v5, rfl, ho⟩ := hm
  obtain ⟨A5, c5, rfl⟩ := own_slice ho
  have HB5 := hide (thenB (unhide HB5a) hb)
  have HA1 := hide ((unhide HA1).keep hb)
  have HP1 := hide ((unhide HP1).keep hb)
  have HA2 := hide ((unhide HA2).keep hb)
  have HP2 := hide ((unhide HP2).keep hb)
  have HA3 := hide ((unhide HA3).keep hb)
  have HP3 := hide ((unhide HP3).keep hb)
  have HA4 := hide ((unhide HA4).keep hb)
  have HP4 := hide ((unhide HP4).keep hb)
  clear hb ho hI
  go_wp2_with fail
  refine (join_nil none 0 w5).mono ?_; rintro e w6 ⟨hb, hm⟩
  replace hm : e = .returned (.tuple #[.slice none 0 0, .int .i64 1]) := hm
  subst hm
  have HB6 := hide (thenB (unhide HB5) hb)
  have HA1 := hide ((unhide HA1).keep hb)
  have HP1 := hide ((unhide HP1).keep hb)
  have HA2 := hide ((unhide HA2).keep hb)
  have HP2 := hide ((unhide HP2).keep hb)
  have HA3 := hide ((unhide HA3).keep hb)
  have HP3 := hide ((unhide HP3).keep hb)
  have HA4 := hide ((unhide HA4).keep hb)
  have HP4 := hide ((unhide HP4).keep hb)
  clear hb
  go_wp2_with fail
  generalize hX : World.alloc _ _ = x7
  have hb : Below w6.heap.size w6 x7 := hX ▸ (Below.refl _ _).alloc (Nat.le_refl _) _
  have hI : Src x7 (some ⟨w6.heap.size, 0, none⟩) ⟨#[97, 98, 10, 99]⟩ := hX ▸ src_new w6 ⟨#[97, 98, 10, 99]⟩ _ _ _ rfl
  have HB7a := hide (thenB (unhide HB6) hb)
  have HA1 := hide ((unhide HA1).keep hb)
  have HP1 := hide ((unhide HP1).keep hb)
  have HA2 := hide ((unhide HA2).keep hb)
  have HP2 := hide ((unhide HP2).keep hb)
  have HA3 := hide ((unhide HA3).keep hb)
  have HP3 := hide ((unhide HP3).keep hb)
  have HA4 := hide ((unhide HA4).keep hb)
  have HP4 := hide ((unhide HP4).keep hb)
  clear hX hb
  refine (place_yes (some ⟨w6.heap.size, 0, none⟩) 4 4 ⟨#[97, 98, 10, 99]⟩ 4 x7 rfl (by decide) hI (fun e => by cases e) (by decide)).mono ?_; rintro e w7 ⟨rfl, hb⟩
  rw [place_ex]
  have HB7 := hide (thenB (unhide HB7a) hb)
  have HA1 := hide ((unhide HA1).keep hb)
  have HP1 := hide ((unhide HP1).keep hb)
  have HA2 := hide ((unhide HA2).keep hb)
  have HP2 := hide ((unhide HP2).keep hb)
  have HA3 := hide ((unhide HA3).keep hb)
  have HP3 := hide ((unhide HP3).keep hb)
  have HA4 := hide ((unhide HA4).keep hb)
  have HP4 := hide ((unhide HP4).keep hb)
  clear hb hI
  have l1 : tk1L.length = 4 := rfl
  have l3 : tk3L.length = 2 := rfl
  have l4 : tk4L.length = 2 := rfl
  rw [l1, l3, l4]
  clear l1 l3 l4
  go_wp2_with fail
  generalize hX : World.alloc _ _ = x8
  have hb : Below w7.heap.size w7 x8 := hX ▸ (Below.refl _ _).alloc (Nat.le_refl _) _
  have hI : TkAt x8 (some ⟨w7.heap.size, 0, none⟩) tk1L := hX ▸ tk_new w7 _ tk1L _ _ rfl
  have HB8a := hide (thenB (unhide HB7) hb)
  have HA1 := hide ((unhide HA1).keep hb)
  have HP1 := hide ((unhide HP1).keep hb)
  have HA2 := hide ((unhide HA2).keep hb)
  have HP2 := hide ((unhide HP2).keep hb)
  have HA3 := hide ((unhide HA3).keep hb)
  have HP3 := hide ((unhide HP3).keep hb)
  have HA4 := hide ((unhide HA4).keep hb)
  have HP4 := hide ((unhide HP4).keep hb)
  clear hX hb
  refine (same_eq A1 (some ⟨w7.heap.size, 0, none⟩) c1 4 4 tk1L x8 rfl (unhide HA1) hI (by decide)).mono ?_; rintro e w8 ⟨rfl, hb⟩
  have HB8 := hide (thenB (unhide HB8a) hb)
  have HA1 := hide ((unhide HA1).keep hb)
  have HP1 := hide ((unhide HP1).keep hb)
  have HA2 := hide ((unhide HA2).keep hb)
  have HP2 := hide ((unhide HP2).keep hb)
  have HA3 := hide ((unhide HA3).keep hb)
  have HP3 := hide ((unhide HP3).keep hb)
  have HA4 := hide ((unhide HA4).keep hb)
  have HP4 := hide ((unhide HP4).keep hb)
  clear hb hI
  go_wp2_with fail
  generalize hX : World.alloc _ _ = x9
  have hb : Below w8.heap.size w8 x9 := hX ▸ (Below.refl _ _).alloc (Nat.le_refl _) _
  have hI : PbAt x9 (some ⟨w8.heap.size, 0, none⟩) [0] := hX ▸ pb_new w8 _ [0] _ _ rfl
  have HB9a := hide (thenB (unhide HB8) hb)
  have HA1 := hide ((unhide HA1).keep hb)
  have HP1 := hide ((unhide HP1).keep hb)
  have HA2 := hide ((unhide HA2).keep hb)
  have HP2 := hide ((unhide HP2).keep hb)
  have HA3 := hide ((unhide HA3).keep hb)
  have HP3 := hide ((unhide HP3).keep hb)
  have HA4 := hide ((unhide HA4).keep hb)
  have HP4 := hide ((unhide HP4).keep hb)
  clear hX hb
  refine (sameP_eq B2 (some ⟨w8.heap.size, 0, none⟩) d2 1 1 [0] x9 rfl (unhide HP2) hI (by decide)).mono ?_; rintro e w9 ⟨rfl, hb⟩
  have HB9 := hide (thenB (unhide HB9a) hb)
  have HA1 := hide ((unhide HA1).keep hb)
  have HP1 := hide ((unhide HP1).keep hb)
  have HA2 := hide ((unhide HA2).keep hb)
  have HP2 := hide ((unhide HP2).keep hb)
  have HA3 := hide ((unhide HA3).keep hb)
  have HP3 := hide ((unhide HP3).keep hb)
  have HA4 := hide ((unhide HA4).keep hb)
  have HP4 := hide ((unhide HP4).keep hb)
  clear hb hI
  obtain ⟨b3, o3, rfl, _, hc3⟩ := (unhide HA3).at_ (by decide)
  obtain ⟨b4, o4, rfl, _, hc4⟩ := (unhide HA4).at_ (by decide)
  obtain ⟨_, e31, _⟩ := hc3 0 ⟨3, ⟨#[97, 34, 98]⟩, 0⟩ rfl
  obtain ⟨_, _, e42⟩ := hc4 0 ⟨1, ⟨#[97]⟩, 1⟩ rfl
  simp only [Nat.zero_mul, Nat.add_zero] at e31 e42
  clear hc3 hc4
  go_wp2_with fail
  refine (kw_any ⟨#[112, 111, 105, 110, 116, 115]⟩ w9).mono ?_; rintro e wx ⟨rfl, rfl⟩
  rw [kw_ex1]
  go_wp2_with fail
  refine (kw_any ⟨#[80, 111, 105, 110, 116, 115]⟩ _).mono ?_; rintro e wx ⟨rfl, rfl⟩
  rw [kw_ex2]
  go_wp2_with fail
  go_ret
  exact ⟨rfl, unhide HB9⟩
end Go.Proofs.YtjppjbkndfbnhaaDoor
