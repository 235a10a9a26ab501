/- Contracts over the codec's program, each for every input under its hypotheses: appendText, writeInt, writeText. -/
import Derived.Test.YtdmaopfaeigelaaGreatDoorCodRWD
import Derived.Test.YtdmaopfaeigelaaGreatDoorCodShelf
import Derived.Lib.BufferKept
import Derived.Lib.AppendStr
import Derived.Lib.ItoaLen
import Derived.Lib.UnsafeStr
namespace Go.Proofs.YtdmaopfaeigelaaGreatDoor
set_option linter.unusedSimpArgs false
set_option linter.unusedVariables false
open Go.RowKit

abbrev Pow (B : Nat) (w : World) : Prop := Lib.TabBelow Tryz.prog B w "internal/strconv.uint64pow10" .u64 Lib.pow10Tab
theorem Pow.along {B : Nat} {w w' : World} (h : Pow B w) (hb : Below B w w') : Pow B w' := fun w'' h' => h w'' (hb.trans h')
theorem infoByte : (Tryz.prog.info? 5).map (fun i => (i.zero, i.size, i.bytes)) = some (some (.int .u8 0), 1, 1) := by kernel_rfl

/-- below B nothing has turned, and of what lies above no block but rows of bytes -/
def Fr (B : Nat) (w w' : World) : Prop := Below B w w' ∧ Lib.OthersKept 5 none w w'
theorem Fr.refl (B : Nat) (w : World) : Fr B w w := ⟨Below.refl _ _, Lib.OthersKept.refl _ _ _⟩
theorem Fr.trans {B : Nat} {a b c : World} (h : Fr B a b) (k : Fr B b c) : Fr B a c := ⟨h.1.trans k.1, h.2.trans k.2⟩
theorem Fr.alloc {B : Nat} {a w : World} (h : Fr B a w) (hB : B ≤ w.heap.size) (o : Obj) : Fr B a (w.alloc o) := ⟨h.1.alloc hB o, h.2.alloc o⟩
theorem Fr.grown {B : Nat} {a w w' : World} {v : Value} {n : Nat} {xs : List Value} (h : Fr B a w) (hown : w.ownsRow B 5 1 v n xs) (hg : w.grownBy w' v.ownBlock) (hB : B ≤ w.heap.size) : Fr B a w' := by
  refine ⟨h.1.grown hg hB fun k hk => (hown.lt k hk).1, h.2.grown hg fun g hg' => ?_⟩
  rcases hown.2 with ⟨rfl, _⟩ | ⟨g', cap, cur, rfl, _, hc, _⟩
  · simp [Value.ownBlock] at hg'
  · simp [Value.ownBlock] at hg'
    subst hg'
    exact ⟨cur, _, hc⟩
theorem Fr.below {B : Nat} {a w w' : World} (h : Fr B a w) (hB : B ≤ w.heap.size) (hb : Below w.heap.size w w') : Fr B a w' := ⟨h.1.trans (hb.mono hB), h.2.below hb⟩
theorem Fr.cells {B g : Nat} {w w' : World} {cs : Array Value} {t : TypeId} {fz : Nat × Nat} (h : Fr B w w') (hc : w.heap[g]? = some (.cells cs t fz)) (ht : t ≠ 5) : w'.heap[g]? = some (.cells cs t fz) :=
  h.2 g _ hc (by simp) (fun c fz' e => ht (by injection e))

/-- the bytes have been appended -/
def Wrote (B : Nat) (w : World) (n : Nat) (xs : List Value) (bs : List UInt8) (e : Ending) (w' : World) : Prop :=
  ∃ v', e = .returned v' ∧ w'.ownsRow B 5 1 v' (n + bs.length) (xs ++ Lib.byteCells bs) ∧ Fr B w w'

theorem oneNew (w : World) (x : Value) : ∀ (j : Nat) (u : Value), [x][j]? = some u → (w.alloc (.cells #[x] 5)).cell? ((⟨w.heap.size, 0, none⟩ : Addr).add j) = some u := by
  intro j u hj
  match j, hj with
  | 0, hj => simp at hj; subst hj; show (w.alloc _).cell? ⟨w.heap.size, 0, none⟩ = _; go_simp
  | j + 1, hj => simp at hj
theorem oneAt {W : World} {g : Nat} {x : Value} (h : W.cell? ⟨g, 0, none⟩ = some x) : ∀ (j : Nat) (u : Value), [x][j]? = some u → W.cell? ((⟨g, 0, none⟩ : Addr).add j) = some u := by
  intro j u hj
  match j, hj with
  | 0, hj => simp at hj; subst hj; exact h
  | j + 1, hj => simp at hj
theorem boxCell {B : Nat} {w w' : World} {cs : Array Value} {t : TypeId} (h : Fr B (w.alloc (.cells cs t)) w') (ht : t ≠ 5) (i : Nat) : w'.cell? ⟨w.heap.size, i, none⟩ = cs[i]? :=
  cell_of_row w' w.heap.size i cs t (0, 0) (h.cells (heap_alloc_new _ _) ht)
theorem byteOne (n : Int) : ∀ u ∈ [Value.int .u8 n], u.oneCell' = true := by
  intro u hu
  simp at hu
  subst hu
  rfl
theorem ownCast {w : World} {B : Nat} {e : TypeId} {sz n n' : Nat} {v : Value} {xs xs' : List Value} (h : w.ownsRow B e sz v n xs) (hn : n' = n) (hx : xs' = xs) : w.ownsRow B e sz v n' xs' := by rw [hn, hx]; exact h
theorem bytes_len (s : ByteArray) : s.data.size = s.size := rfl
/-- how a text is encoded -/
def encT (s : ByteArray) : List UInt8 := Lib.itoa s.size ++ 58 :: s.data.toList

set_option maxHeartbeats 1000000 in
theorem text_any (B n : Nat) (bv : Value) (xs : List Value) (s : ByteArray) (w : World) (hown : w.ownsRow B 5 1 bv n xs) (hB : B ≤ w.heap.size) (hlim : n ≤ 1000000000) (hs : s.size ≤ 1000000000) (hT : Pow B w) :
    Calls Tryz.prog 202 #[bv, .string s] w (Wrote B w n xs (encT s)) := by
  obtain ⟨i0, hi, hz0, hz1, hz2⟩ := info_parts infoByte
  have hA := Tryz.strconv_AppendInt_10 B n (s.size : Int) (by omega) (by omega) bv xs w hown hB (by omega) hT
  have hlen : (Lib.itoa (s.size : Int)).length ≤ 21 := Lib.itoa_length_le _ (by omega) (by omega)
  have HA := hide hA; have HLN := hide hlen; clear hA hown hT hlen
  go_enter Tryz.func202, Tryz.ntmps202
  go_wp2_with fail
  refine (unhide HA).mono ?_; rintro e w1 ⟨v1, rfl, hown1, hb1, ho1⟩
  have HF1 : Hid (Fr B w w1) := ⟨hb1, ho1⟩
  have hz1' : B ≤ w1.heap.size := by have := hb1.size; omega
  have HO1 := hide hown1; clear hown1 hb1 ho1
  go_wp2_with (at_builtin; refine wpList_append_own _ rfl _ _ 52 rfl B 5 i0 (.int .u8 0) 1 1 Tryz.underlying52 hi hz0 hz1 hz2 rfl (by decide) _ _ _ rfl (World.ownsRow.alloc (unhide HO1) _) ⟨_, 0, none⟩ 1 1 [.int .u8 58] rfl rfl ?c1 ?c2 ?c3 ?c4 ?c5 ?_)
  case c1 => exact oneNew _ _
  case c2 => exact byteOne _
  case c3 => have := unhide HLN; unfold maxLen; omega
  case c4 => have := unhide HLN; omega
  case c5 => simp; omega
  intro v2 w2 hown2 hgrow2 _
  have HF2 : Hid (Fr B w w2) := ((unhide HF1).alloc hz1' _).grown (World.ownsRow.alloc (unhide HO1) _) hgrow2 (by simp; omega)
  have hz2' : B ≤ w2.heap.size := by have := hgrow2.size; simp at this; omega
  have HO2 := hide hown2; clear hown2 hgrow2
  go_wp2_with (at_builtin; refine Lib.wpList_append_own_string _ rfl _ _ 52 9 rfl B 5 i0 Tryz.underlying52 Tryz.underlying9 hi hz0 hz1 hz2 _ _ _ rfl (unhide HO2) s rfl ?c3 ?c4 ?c5 ?_)
  case c3 => have := unhide HLN; unfold maxLen; omega
  case c4 => have := unhide HLN; omega
  case c5 => exact hz2'
  intro v3 w3 hown3 hgrow3 _
  have HF3 : Hid (Fr B w w3) := (unhide HF2).grown (unhide HO2) hgrow3 hz2'
  have HO3 := hide hown3; clear hown3 hgrow3
  go_wp2_with fail
  go_ret
  exact ⟨_, rfl, ownCast (unhide HO3) (by simp [encT, bytes_len]; omega) (by simp [encT, Lib.byteCells, Lib.strCells]), unhide HF3⟩

mutual
def Va.enc : Va → List UInt8
  | .mk k n s l ks => if k = 1 then 105 :: Lib.itoa n ++ [101] else if k = 2 then encT s else if k = 3 then 108 :: encL l ++ [101] else 100 :: encD l ks ++ [101]
def encL : List Va → List UInt8
  | [] => []
  | x :: r => x.enc ++ encL r
def encD : List Va → List ByteArray → List UInt8
  | [], _ => []
  | _ :: _, [] => []
  | x :: r, q :: qs => encT q ++ x.enc ++ encD r qs
end
theorem encL_take {l : List Va} {i : Nat} {x : Va} (h : l[i]? = some x) : encL (l.take (i + 1)) = encL (l.take i) ++ x.enc := by
  induction l generalizing i with
  | nil => simp at h
  | cons y r ih =>
    cases i with
    | zero => simp at h; subst h; simp [encL]
    | succ i => simp only [List.take_succ_cons, encL, ih (by simpa using h), List.append_assoc]
theorem encL_split (l : List Va) (i : Nat) : encL l = encL (l.take i) ++ encL (l.drop i) := by
  induction l generalizing i with
  | nil => simp [encL]
  | cons y r ih =>
    cases i with
    | zero => simp [encL]
    | succ i => simp only [List.take_succ_cons, List.drop_succ_cons, encL, ih i, List.append_assoc]
theorem encD_take {l : List Va} {ks : List ByteArray} {i : Nat} {x : Va} {q : ByteArray} (h : l[i]? = some x) (hq : ks[i]? = some q) : encD (l.take (i + 1)) (ks.take (i + 1)) = encD (l.take i) (ks.take i) ++ (encT q ++ x.enc) := by
  induction l generalizing i ks with
  | nil => simp at h
  | cons y r ih =>
    cases ks with
    | nil => simp at hq
    | cons p ps =>
      cases i with
      | zero => simp at h hq; subst h hq; simp [encD]
      | succ i => simp only [List.take_succ_cons, encD, ih (by simpa using h) (by simpa using hq), List.append_assoc]
theorem encD_split (l : List Va) (ks : List ByteArray) (i : Nat) : (encD (l.take i) (ks.take i)).length ≤ (encD l ks).length := by
  induction l generalizing ks i with
  | nil => simp [encD]
  | cons y r ih =>
    cases ks with
    | nil => cases i <;> simp [encD]
    | cons p ps =>
      cases i with
      | zero => simp [encD]
      | succ i =>
        have := ih ps i
        simp only [List.take_succ_cons, encD, List.length_append]
        omega

set_option maxHeartbeats 1000000 in
theorem int_any (B m : Nat) (k n : Int) (s : ByteArray) (A : Option Addr) (l c : Nat) (A' : Option Addr) (l' c' : Nat) (bv : Value) (xs : List Value) (w : World) (hn : I64 n) (hown : w.ownsRow B 5 1 bv m xs) (hB : B ≤ w.heap.size) (hlim : m ≤ 1000000000) (hT : Pow B w) :
    Calls Tryz.prog 143 #[bv, vaV k n s A l c A' l' c'] w (Wrote B w m xs (105 :: Lib.itoa n ++ [101])) := by
  obtain ⟨i0, hi, hz0, hz1, hz2⟩ := info_parts infoByte
  have hlen : (Lib.itoa n).length ≤ 21 := Lib.itoa_length_le _ hn.1 hn.2
  have HO := hide hown; have HT := hide hT; have HLN := hide hlen; have HN := hide hn
  have hlt := hown.lt
  clear hown hT hlen hn
  go_enter Tryz.func143, Tryz.ntmps143
  go_wp2_with (at_builtin; refine wpList_append_own _ rfl _ _ 52 rfl B 5 i0 (.int .u8 0) 1 1 Tryz.underlying52 hi hz0 hz1 hz2 rfl (by decide) _ _ _ rfl (World.ownsRow.alloc (World.ownsRow.alloc (unhide HO) _) _) ⟨_, 0, none⟩ 1 1 [.int .u8 105] rfl rfl ?c1 ?c2 ?c3 ?c4 ?c5 ?_)
  case c1 => exact oneAt (by go_simp)
  case c2 => exact byteOne _
  case c3 => unfold maxLen; omega
  case c4 => omega
  case c5 => simp; omega
  intro v1 w1 hown1 hgrow1 _
  have HF1 : Hid (Fr B (w.alloc (.cells #[.int .i64 k, .int .i64 n, .string s, .slice A l c, .slice A' l' c'] 66)) w1) :=
    ((Fr.refl _ _).alloc (by simp; omega) _).grown (World.ownsRow.alloc (World.ownsRow.alloc (unhide HO) _) _) hgrow1 (by simp; omega)
  have hw1 : B ≤ w1.heap.size := by have := hgrow1.size; simp at this; omega
  have hc1 : w1.cell? ⟨w.heap.size, 1, none⟩ = some (.int .i64 n) := boxCell (unhide HF1) (by decide) 1
  have HO1 := hide hown1
  have hA := Tryz.strconv_AppendInt_10 B (m + 1) n (unhide HN).1 (unhide HN).2 v1 _ w1 hown1 hw1 (by omega) ((unhide HT).along (((Below.refl _ _).alloc hB _).trans (unhide HF1).1))
  have HA := hide hA
  clear hown1 hgrow1 hA
  go_wp2_with fail
  refine (unhide HA).mono ?_; rintro e w2 ⟨v2, rfl, hown2, hb2, ho2⟩
  have HF2 : Hid (Fr B w w2) := (((Fr.refl _ _).alloc hB _).trans (unhide HF1)).trans ⟨hb2, ho2⟩
  have hw2 : B ≤ w2.heap.size := by have := hb2.size; omega
  have HO2 := hide hown2
  clear hown2 hb2 ho2
  go_wp2_with (at_builtin; refine wpList_append_own _ rfl _ _ 52 rfl B 5 i0 (.int .u8 0) 1 1 Tryz.underlying52 hi hz0 hz1 hz2 rfl (by decide) _ _ _ rfl (World.ownsRow.alloc (unhide HO2) _) ⟨_, 0, none⟩ 1 1 [.int .u8 101] rfl rfl ?c1 ?c2 ?c3 ?c4 ?c5 ?_)
  case c1 => exact oneAt (by go_simp)
  case c2 => exact byteOne _
  case c3 => have := unhide HLN; unfold maxLen; omega
  case c4 => have := unhide HLN; omega
  case c5 => simp; omega
  intro v3 w3 hown3 hgrow3 _
  have HF3 : Hid (Fr B w w3) := ((unhide HF2).alloc hw2 _).grown (World.ownsRow.alloc (unhide HO2) _) hgrow3 (by simp; omega)
  have HO3 := hide hown3; clear hown3 hgrow3
  go_wp2_with fail
  go_ret
  exact ⟨_, rfl, ownCast (unhide HO3) (by simp; omega) (by simp [Lib.byteCells]), unhide HF3⟩

set_option maxHeartbeats 1000000 in
theorem wtext_any (B m : Nat) (k n : Int) (s : ByteArray) (A : Option Addr) (l c : Nat) (A' : Option Addr) (l' c' : Nat) (bv : Value) (xs : List Value) (w : World) (hs : s.size ≤ 1000000000) (hown : w.ownsRow B 5 1 bv m xs) (hB : B ≤ w.heap.size) (hlim : m ≤ 1000000000) (hT : Pow B w) :
    Calls Tryz.prog 144 #[bv, vaV k n s A l c A' l' c'] w (Wrote B w m xs (encT s)) := by
  have hX := text_any B m bv xs s (w.alloc (.cells #[.int .i64 k, .int .i64 n, .string s, .slice A l c, .slice A' l' c'] 66)) (World.ownsRow.alloc hown _) (by simp; omega) hlim hs (hT.along ((Below.refl _ _).alloc hB _))
  have HX := hide hX
  clear hX hown hT
  go_enter Tryz.func144, Tryz.ntmps144
  go_wp2_with fail
  refine (unhide HX).mono ?_; rintro e w1 ⟨v1, rfl, hown1, hf1⟩
  have HO1 := hide hown1; have HF1 := hide (((Fr.refl B w).alloc hB _).trans hf1); clear hown1 hf1
  go_wp2_with fail
  go_ret
  exact ⟨_, rfl, unhide HO1, unhide HF1⟩
end Go.Proofs.YtdmaopfaeigelaaGreatDoor
