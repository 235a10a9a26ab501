/- Contracts over the codec's program, each for all bytes: the reader's number. Contracts over the codec's program, each for all bytes: the reader's text and integer. Values of the codec that lie in known blocks; what the reader reads, as pure functions. -/
import Derived.Test.YtdmaopfaeigelaaGreatDoorCodRd2
namespace Go.Proofs.YtdmaopfaeigelaaGreatDoor
set_option linter.unusedSimpArgs false
set_option linter.unusedVariables false
open Go.RowKit

def numP (stop : UInt8) (bs : List UInt8) : Option (Int × List UInt8) :=
  if Lib.indexByte bs stop < 0 then none
  else match Lib.atoiAll (bs.take (Lib.indexByte bs stop).toNat) with
    | .ok v => if Lib.itoa v = bs.take (Lib.indexByte bs stop).toNat then some (v, bs.drop ((Lib.indexByte bs stop).toNat + 1)) else none
    | _ => none
/-- how a method ends whose pure function is p -/
def Ends {α : Type} (rb : Nat) (p : Option (α × List UInt8)) (val : α → Value → World → Prop) (w : World) (e : Ending) (w' : World) : Prop :=
  match p with
  | none => Dead rb w e w'
  | some (a, rest) => Took rb rest (val a) w e w'

theorem index_range : ∀ (bs : List UInt8) (c : UInt8), Lib.indexByte bs c = -1 ∨ (0 ≤ Lib.indexByte bs c ∧ Lib.indexByte bs c < (bs.length : Int))
  | [], c => by simp [Lib.indexByte]
  | b :: l, c => by
    have h := index_range l c
    simp only [Lib.indexByte, List.length_cons]
    split
    · right; omega
    · rcases h with h | h
      · left; simp [h]
      · right
        have : (Lib.indexByte l c == -1) = false := by simp; omega
        rw [this]
        simp
        omega
theorem index_at (w : World) (rb : Nat) (A : Option Addr) (bs : List UInt8) (stop : UInt8) (hA : A = none ∧ bs = [] ∨ ∃ g o, A = some ⟨g, o, none⟩ ∧ g < rb) (hb : BytesAt w rb A bs) :
    Calls Tryz.prog 212 #[.slice A bs.length bs.length, .int .u8 (stop.toNat : Int)] w fun e w' => e = .returned (.int .i64 (Lib.indexByte bs stop)) ∧ w' = w := by
  rcases hA with ⟨rfl, rfl⟩ | ⟨g, o, rfl, hne⟩
  · exact Tryz.bytes_IndexByte_nil (stop.toNat : Int) w
  · refine (Tryz.bytes_IndexByte_at ⟨g, o, none⟩ bs.length bs.length (bs.map fun b => (b.toNat : Int)) (stop.toNat : Int) w (by simp) fun i hi => ?_).mono ?_
    · obtain ⟨g', o', e, _, hc⟩ := hb i _ (List.getElem?_eq_getElem hi)
      injection e with e
      injection e with e1 e2
      subst e1 e2
      have : (⟨g, o, none⟩ : Addr).add i = ⟨g, o + i, none⟩ := by
        unfold Addr.add
        split
        · rename_i e; simp [e]
        · rfl
      rw [this, hc, List.getD_eq_getElem?_getD, List.getElem?_map, List.getElem?_eq_getElem hi]
      rfl
    rintro e w' ⟨rfl, rfl⟩
    refine ⟨?_, rfl⟩
    have e1 : Lib.bytesOf (bs.map fun b => (b.toNat : Int)) = bs := by
      rw [Lib.bytesOf, List.map_map]
      exact (List.map_congr_left (g := id) fun b _ => by simp).trans (List.map_id _)
    have e2 : ((stop.toNat : Int)).toNat.toUInt8 = stop := by simp
    rw [e1, e2]

/-- strconv.Atoi, as one contract -/
def AtoiIs (l : List UInt8) (w : World) (e : Ending) (w' : World) : Prop :=
  (match Lib.atoiAll l with
    | .ok v => e = .returned (.tuple #[.int .i64 v, .nilIface])
    | _ => ∃ n t p, e = .returned (.tuple #[.int .i64 n, .iface t p])) ∧ Below w.heap.size w w'
theorem numEnd_cases (e : Lib.NumEnd Int) : (∃ v, e = .ok v) ∨ e = Lib.atoiAll [] ∨ e = .range := by
  cases e <;> first | exact .inl ⟨_, rfl⟩ | exact .inr (.inl rfl) | exact .inr (.inr rfl)
theorem atoi_any (s : ByteArray) (w : World) (hs : s.size ≤ 140737488351232) (hE : Env w) (hw : gTop ≤ w.heap.size) : Calls Tryz.prog 213 #[.string s] w (AtoiIs s.data.toList w) := by
  obtain ⟨_, ⟨t1, p1, h1⟩, ⟨t2, p2, h2⟩⟩ := hE w (Below.refl _ _)
  rcases numEnd_cases (Lib.atoiAll s.data.toList) with ⟨v, h⟩ | h | h
  · refine (Tryz.strconv_Atoi_ok s (by omega) v h w).mono ?_
    rintro e w' ⟨rfl, hw'⟩
    refine ⟨by rw [h], ?_⟩
    rcases hw' with rfl | ⟨t, rfl⟩
    · exact Below.refl _ _
    · exact Lib.bytesWorld_below _ _ _
  · refine (Tryz.strconv_Atoi_syntax s (by omega) h _ w h1 (.inr ⟨_, _, rfl⟩)).mono ?_
    rintro e w' ⟨N, rfl, _, _, hb⟩
    exact ⟨by rw [h]; exact ⟨_, _, _, rfl⟩, hb⟩
  · refine (Tryz.strconv_Atoi_range s (by omega) h _ w h2 (.inr ⟨_, _, rfl⟩)).mono ?_
    rintro e w' ⟨N, rfl, _, _, hb⟩
    exact ⟨by rw [h]; exact ⟨_, _, _, rfl⟩, hb⟩

theorem grownTrans {a b c : World} {rb : Nat} (h : a.grownBy b (some rb)) (k : b.grownBy c (some rb)) : a.grownBy c (some rb) := World.grownBy.trans h k
theorem growBelow (w : World) (k : Nat) (os : Array Obj) : Below w.heap.size w (Go.Sort.grow (w.drewN k) os) :=
  ⟨rfl, rfl, rfl, by simp [Go.Sort.grow], fun i hi => by simp only [Go.Sort.grow]; exact Array.getElem?_append_left hi⟩

theorem itoa_any (n : Int) (w : World) (hn : I64 n) (hE : Env w) : Calls Tryz.prog 214 #[.int .i64 n] w fun e w' => e = .returned (.string ⟨(Lib.itoa n).toArray⟩) ∧ Below w.heap.size w w' := by
  refine (Tryz.strconv_Itoa n hn.1 hn.2 w (hE w (Below.refl _ _)).1).mono ?_
  rintro e w' ⟨rfl, k, os, rfl⟩
  exact ⟨rfl, growBelow w k os⟩
theorem atoi_range {l : List UInt8} {v : Int} (h : Lib.atoiAll l = .ok v) : I64 v := by
  unfold Lib.atoiAll at h
  split at h
  · cases h
  · simp only at h
    split at h
    · cases h
    · cases h
    · split at h
      · cases h
      · split at h
        · cases h
        · rename_i u hu h1 h2
          injection h with h
          unfold I64
          split at h <;> omega

set_option maxHeartbeats 2000000 in
theorem number_neg (stop : UInt8) (w : World) (rb : Nat) (bs : List UInt8) (h : RdAt w rb bs) (hi : Lib.indexByte bs stop < 0) :
    Calls Tryz.prog 182 #[.pointer (some ⟨rb, 0, none⟩), .int .u8 (stop.toNat : Int)] w (Dead rb w) := by
  have hT := take_bad (Lib.indexByte bs stop) w rb bs h (.inl hi)
  obtain ⟨A, hA, hc, hf, hb, hl, _⟩ := h.open
  have hI := index_at w rb A bs stop hA hb
  generalize Lib.indexByte bs stop = i at hT hI
  generalize bs.length = m at hc hI hl
  have HT := hide hT; have HI := hide hI
  clear hT hI hA hb
  go_enter Tryz.func182, Tryz.ntmps182
  go_wp2_with fail
  refine (unhide HI).mono ?_; rintro e w1 ⟨rfl, rfl⟩
  go_wp2_with fail
  refine (unhide HT).mono ?_; rintro e w2 ⟨rfl, hg⟩
  go_wp2_with fail
  exact ⟨rfl, rfl, hg⟩

theorem grownRefl {w : World} {rb : Nat} : w.grownBy w (some rb) := World.grownBy.refl _ _

theorem toList_inj' {s t : ByteArray} (h : s.toList = t.toList) : s = t := by
  rw [ByteArray.toList_eq, ByteArray.toList_eq] at h
  cases s; cases t
  simp at h
  simp [h]

set_option maxHeartbeats 4000000 in
theorem number_pos (stop : UInt8) (w : World) (rb k : Nat) (bs : List UInt8) (h : RdAt w rb bs) (hi : Lib.indexByte bs stop = (k : Int)) (hk : k < bs.length) (hE : Env w) (hw : gTop ≤ w.heap.size) (hrb : gTop ≤ rb) (r : Option (Int × List UInt8))
    (hres : r = match Lib.atoiAll (bs.take k) with | .ok v => if Lib.itoa v = bs.take k then some (v, bs.drop (k + 1)) else none | _ => none) :
    Calls Tryz.prog 182 #[.pointer (some ⟨rb, 0, none⟩), .int .u8 (stop.toNat : Int)] w
      (Ends rb r (fun n v _ => v = .int .i64 n) w) := by
  have hT := take_any k w rb bs h (by omega)
  obtain ⟨A, hA, hc, hf, hb, hl, _⟩ := h.open
  have hI := index_at w rb A bs stop hA hb
  rw [hi] at hI
  have hdl : (bs.take k).length ≤ 140737488351232 := by rw [List.length_take]; omega
  have hdd : (bs.drop k).length = bs.length - k := by simp
  have hpos : 1 ≤ (bs.drop k).length := by omega
  have hd1 : (bs.drop k).drop 1 = bs.drop (k + 1) := by rw [List.drop_drop]
  generalize bs.take k = ds at hT hdl hres
  generalize bs.drop k = rs at hT hpos hd1
  generalize bs.drop (k + 1) = rest at hd1 hres
  generalize bs.length = m at hc hI hl
  have HT := hide hT; have HI := hide hI; have HD := hide hd1; have HE := hide hE; have HP := hide hpos; have HRES := hide hres
  clear hT hI hA hb hi hk hE hd1 hdd hpos hres
  have hsz : (⟨ds.toArray⟩ : ByteArray).size ≤ 140737488351232 := by show ds.toArray.size ≤ _; simpa using hdl
  have hat := fun (W : World) (hEW : Env W) (hwW : gTop ≤ W.heap.size) => atoi_any ⟨ds.toArray⟩ W hsz hEW hwW
  have hAT : Hid (∀ W, Env W → gTop ≤ W.heap.size → Calls Tryz.prog 213 #[.string ⟨ds.toArray⟩] W (AtoiIs ds W)) := fun W h1 h2 => by simpa using hat W h1 h2
  have hci : ∀ (v : Int), Lib.itoa v = ds ↔ (⟨(Lib.itoa v).toArray⟩ : ByteArray) = ⟨ds.toArray⟩ := fun v => by simp
  have HCI := hide hci
  have hcv := fun (W : World) (v : Value) (h : TookBytes rb ds v W) => conv_any h
  have HCV := hide hcv
  generalize (⟨ds.toArray⟩ : ByteArray) = sd at hAT HCI HCV
  clear hat hci hcv hsz hdl
  go_enter Tryz.func182, Tryz.ntmps182
  go_wp2_with fail
  refine (unhide HI).mono ?_; rintro e w0 ⟨rfl, rfl⟩
  go_wp2_with fail
  refine (unhide HT).mono ?_; rintro e w1 ⟨v1, rfl, hv1, hr1, hg1⟩
  have hcv := (unhide HCV) w1 v1 hv1
  have HR1 := hide hr1; have HG1 := hide hg1
  clear hv1 hr1 hg1
  go_wp2_with fail
  refine (take_any 1 w1 rb rs (unhide HR1) (unhide HP)).mono ?_; rintro e w2 ⟨v2, rfl, _, hr2, hg2⟩
  rw [unhide HD] at hr2
  have HR2 := hide hr2; have HG2 := hide (grownTrans (unhide HG1) hg2)
  clear hr2 hg2 hcv
  have hE2 := (unhide HE).grown (unhide HG2) hw hrb
  have hw2 : gTop ≤ w2.heap.size := Nat.le_trans hw (unhide HG2).size
  have HE2 := hide hE2
  clear hE2
  go_wp2_with fail
  refine (hAT w2 (unhide HE2) hw2).mono ?_
  rintro e w3 ⟨he, hb3⟩
  have HB3 := hide hb3; clear hb3
  rcases numEnd_cases (Lib.atoiAll ds) with ⟨v, hq⟩ | hq | hq
  · rw [hq] at he
    simp only at he
    subst he
    have hI := fun (W : World) (hEW : Env W) => itoa_any v W (atoi_range hq) hEW
    have hE3 : Env w3 := (unhide HE2).along ((unhide HB3).mono hw2)
    have hcv := (unhide HCI) v
    by_cases heq : Lib.itoa v = ds
    · have hI3 := hI w3 hE3
      rw [hcv.1 heq] at hI3
      have HI3 := hide hI3; have HEQ := hide heq
      have HQ := hide hq
      clear hI3 heq hcv hI hE3 hq
      go_wp2_with fail
      refine (unhide HI3).mono ?_; rintro e w4 ⟨rfl, hb4⟩
      have HB4 := hide hb4; clear hb4
      go_wp2_with fail
      go_ret
      have hr := unhide HRES
      rw [unhide HQ] at hr
      simp only [unhide HEQ, if_true] at hr
      subst hr
      exact ⟨_, rfl, rfl, ((unhide HR2).below (unhide HB3)).below (unhide HB4), grownTrans (grownTrans (unhide HG2) (belowGrown rb (unhide HB3))) (belowGrown rb (unhide HB4))⟩
    · have hI3 := hI w3 hE3
      have hne : ¬ (⟨(Lib.itoa v).toArray⟩ : ByteArray) = sd := fun h => heq (hcv.2 h)
      have HEQ := hide heq
      generalize (⟨(Lib.itoa v).toArray⟩ : ByteArray) = si at hI3 hne
      have hnl : ¬ si.toList = sd.toList := fun h => hne (toList_inj' h)
      have hnb : (!(si.toList == sd.toList)) = true := by simp [hnl]
      have HI3 := hide hI3; have HQ := hide hq
      clear hI3 heq hcv hI hE3 hq hne
      go_wp2_with fail
      refine (unhide HI3).mono ?_; rintro e w4 ⟨rfl, hb4⟩
      have HB4 := hide hb4; clear hb4
      go_wp2_with fail
      have hr := unhide HRES
      rw [unhide HQ] at hr
      simp only [if_neg (unhide HEQ)] at hr
      subst hr
      exact ⟨rfl, rfl, grownTrans (grownTrans (unhide HG2) (belowGrown rb (unhide HB3))) (belowGrown rb (unhide HB4))⟩
  · rw [hq] at he
    obtain ⟨n, t, p, rfl⟩ := he
    have HQ := hide hq; clear hq
    go_wp2_with fail
    have hr := unhide HRES
    rw [unhide HQ] at hr
    subst hr
    exact ⟨rfl, rfl, grownTrans (unhide HG2) (belowGrown rb (unhide HB3))⟩
  · rw [hq] at he
    obtain ⟨n, t, p, rfl⟩ := he
    have HQ := hide hq; clear hq
    go_wp2_with fail
    have hr := unhide HRES
    rw [unhide HQ] at hr
    subst hr
    exact ⟨rfl, rfl, grownTrans (unhide HG2) (belowGrown rb (unhide HB3))⟩

theorem number_any (stop : UInt8) (w : World) (rb : Nat) (bs : List UInt8) (h : RdAt w rb bs) (hE : Env w) (hw : gTop ≤ w.heap.size) (hrb : gTop ≤ rb) :
    Calls Tryz.prog 182 #[.pointer (some ⟨rb, 0, none⟩), .int .u8 (stop.toNat : Int)] w (Ends rb (numP stop bs) (fun n v _ => v = .int .i64 n) w) := by
  rcases index_range bs stop with hi | ⟨h0, h1⟩
  · have e : numP stop bs = none := by unfold numP; rw [if_pos (by omega)]
    rw [e]
    exact number_neg stop w rb bs h (by omega)
  · obtain ⟨k, hk⟩ : ∃ k : Nat, Lib.indexByte bs stop = k := ⟨(Lib.indexByte bs stop).toNat, by omega⟩
    refine number_pos stop w rb k bs h hk (by omega) hE hw hrb _ ?_
    unfold numP
    rw [if_neg (by omega), hk]
    rfl
end Go.Proofs.YtdmaopfaeigelaaGreatDoor
namespace Go.Proofs.YtdmaopfaeigelaaGreatDoor
set_option linter.unusedSimpArgs false
set_option linter.unusedVariables false
open Go.RowKit

def textP (bs : List UInt8) : Option (List UInt8 × List UInt8) :=
  match numP 58 bs with
  | none => none
  | some (n, r) => if 0 ≤ n ∧ n ≤ (r.length : Int) then some (r.take n.toNat, r.drop n.toNat) else none

set_option maxHeartbeats 2000000 in
theorem text_res (w : World) (rb : Nat) (bs : List UInt8) (h : RdAt w rb bs) (hE : Env w) (hw : gTop ≤ w.heap.size) (hrb : gTop ≤ rb) (r : Option (List UInt8 × List UInt8)) (hres : r = textP bs) :
    Calls Tryz.prog 106 #[.pointer (some ⟨rb, 0, none⟩)] w (Ends rb r (fun s v _ => v = .string ⟨s.toArray⟩) w) := by
  have hN := number_any 58 w rb bs h hE hw hrb
  unfold textP at hres
  have HRES := hide hres
  generalize numP 58 bs = q at hN HRES
  clear hres h
  cases q with
  | none =>
    obtain rfl := unhide HRES
    have HN : Hid (Calls Tryz.prog 182 #[.pointer (some ⟨rb, 0, none⟩), .int .u8 58] w (Dead rb w)) := hN
    clear hN hE
    go_enter Tryz.func106, Tryz.ntmps106
    go_wp2_with fail
    refine (unhide HN).mono ?_; rintro e w1 ⟨rfl, hg⟩
    go_wp2_with fail
    exact ⟨rfl, rfl, hg⟩
  | some p =>
    obtain ⟨n, rest⟩ := p
    have HN : Hid (Calls Tryz.prog 182 #[.pointer (some ⟨rb, 0, none⟩), .int .u8 58] w (Took rb rest (fun v _ => v = .int .i64 n) w)) := hN
    clear hN hE
    by_cases hn : 0 ≤ n ∧ n ≤ (rest.length : Int)
    · have hr := unhide HRES
      simp only [if_pos hn] at hr
      obtain ⟨k, hk⟩ : ∃ k : Nat, n = k := ⟨n.toNat, by omega⟩
      subst hk
      obtain rfl := hr
      simp only [Int.toNat_natCast]
      have hkl : k ≤ rest.length := by omega
      have HKL := hide hkl
      clear hn hkl HRES
      go_enter Tryz.func106, Tryz.ntmps106
      go_wp2_with fail
      refine (unhide HN).mono ?_; rintro e w1 ⟨_, rfl, rfl, hr, hg⟩
      have HR := hide hr; have HG := hide hg; clear hr hg
      go_wp2_with fail
      refine (take_any k w1 rb rest (unhide HR) (unhide HKL)).mono ?_; rintro e w2 ⟨v2, rfl, hv2, hr2, hg2⟩
      have hcv := conv_any hv2
      have HR2 := hide hr2; have HG2 := hide hg2; clear hr2 hg2 hv2
      obtain ⟨ds, hds⟩ : ∃ ds, rest.take k = ds := ⟨_, rfl⟩
      rw [hds] at hcv
      have HDS := hide hds
      clear hds
      go_wp2_with fail
      go_ret
      exact ⟨_, rfl, by rw [unhide HDS]; rfl, unhide HR2, grownTrans (unhide HG) (unhide HG2)⟩
    · have hr := unhide HRES
      simp only [if_neg hn] at hr
      obtain rfl := hr
      have HNN := hide hn
      clear hn HRES
      go_enter Tryz.func106, Tryz.ntmps106
      go_wp2_with fail
      refine (unhide HN).mono ?_; rintro e w1 ⟨_, rfl, rfl, hr, hg⟩
      have HR := hide hr; have HG := hide hg; clear hr hg
      go_wp2_with fail
      refine (take_bad n w1 rb rest (unhide HR) (by have := unhide HNN; omega)).mono ?_; rintro e w2 ⟨rfl, hg2⟩
      have HG2 := hide hg2; clear hg2
      go_wp2_with fail
      exact ⟨rfl, rfl, grownTrans (unhide HG) (unhide HG2)⟩
theorem text_any' (w : World) (rb : Nat) (bs : List UInt8) (h : RdAt w rb bs) (hE : Env w) (hw : gTop ≤ w.heap.size) (hrb : gTop ≤ rb) :
    Calls Tryz.prog 106 #[.pointer (some ⟨rb, 0, none⟩)] w (Ends rb (textP bs) (fun s v _ => v = .string ⟨s.toArray⟩) w) := text_res w rb bs h hE hw hrb _ rfl

/-- a block that is new in w: five cells of a value, in every later world that writes the reader's block alone -/
abbrev zeroCells : Array Value := #[.int .i64 0, .int .i64 0, .string ⟨#[]⟩, .slice none 0 0, .slice none 0 0]
theorem boxAt {W : World} {N : Nat} {cs : Array Value} {t : TypeId} (h : W.heap[N]? = some (.cells cs t (0, 0))) : ∀ i, W.cell? ⟨N, i, none⟩ = cs[i]? ∧ W.frozen? ⟨N, i, none⟩ = false := fun i =>
  ⟨cell_of_row W N i cs t (0, 0) h, frozen_of_row W N i cs t h⟩
theorem setN {w W : World} {rb N : Nat} (h : w.grownBy W (some rb)) (hN : w.heap.size ≤ N) (o : Nat) (x : Value) : w.grownBy (W.setCell ⟨N, o, none⟩ x) (some rb) :=
  ⟨h.os, h.tape, h.output, by show _ ≤ (W.heap.modify _ _).size; rw [Array.size_modify]; exact h.size, fun k hk hne => (Below.heap_setCell _ _ _ _ (by show k ≠ N; omega)).trans (h.block k hk hne)⟩
theorem set5 {w W : World} {rb N : Nat} (h : w.grownBy W (some rb)) (hN : w.heap.size ≤ N) (x0 x1 x2 x3 x4 : Value) :
    w.grownBy (((((W.setCell ⟨N, 0, none⟩ x0).setCell ⟨N, 1, none⟩ x1).setCell ⟨N, 2, none⟩ x2).setCell ⟨N, 3, none⟩ x3).setCell ⟨N, 4, none⟩ x4) (some rb) :=
  setN (setN (setN (setN (setN h hN _ _) hN _ _) hN _ _) hN _ _) hN _ _
theorem below5 {W : World} {B N : Nat} (hN : B ≤ N) (x0 x1 x2 x3 x4 : Value) :
    Below B W (((((W.setCell ⟨N, 0, none⟩ x0).setCell ⟨N, 1, none⟩ x1).setCell ⟨N, 2, none⟩ x2).setCell ⟨N, 3, none⟩ x3).setCell ⟨N, 4, none⟩ x4) :=
  (((((Below.refl _ _).setCell hN _).setCell hN _).setCell hN _).setCell hN _).setCell hN _

set_option maxHeartbeats 2000000 in
theorem integer_res (w : World) (rb : Nat) (b : UInt8) (bs : List UInt8) (h : RdAt w rb (b :: bs)) (hE : Env w) (hw : gTop ≤ w.heap.size) (hrb : gTop ≤ rb) (r : Option (Int × List UInt8)) (hres : r = numP 101 bs) :
    Calls Tryz.prog 103 #[.pointer (some ⟨rb, 0, none⟩)] w (Ends rb r (fun n v w' => v = vaV 1 n ⟨#[]⟩ none 0 0 none 0 0) w) := by
  have hlt := h.lt
  have hT := fun (W : World) (hW : Below w.heap.size w W) => take_any 1 W rb (b :: bs) (h.below hW) (by simp)
  have HT := hide hT
  have HE := hide hE; have HRES := hide hres
  clear h hE hres hT
  go_enter Tryz.func103, Tryz.ntmps103
  go_wp2_with fail
  refine ((unhide HT) _ ((Below.refl _ _).alloc (Nat.le_refl _) _)).mono ?_; rintro e w1 ⟨v1, rfl, _, hr1, hg1⟩
  have hh1 : w1.heap[w.heap.size]? = some (.cells zeroCells 66 (0, 0)) := by
    rw [hg1.block w.heap.size (by simp) (by simp; omega)]
    exact heap_alloc_new _ _
  have HH1 := hide hh1
  have HG1 : Hid (w.grownBy w1 (some rb)) := World.grownBy.trans (World.grownBy_alloc w _ (some rb)) hg1
  have hz1 : w.heap.size < w1.heap.size := by have := hg1.size; simp at this; omega
  have hN := number_any 101 w1 rb bs hr1 ((unhide HE).grown (unhide HG1) hw hrb) (by omega) hrb
  rw [← unhide HRES] at hN
  clear hr1 hg1 hh1
  cases r with
  | none =>
    have HN : Hid (Calls Tryz.prog 182 #[.pointer (some ⟨rb, 0, none⟩), .int .u8 101] w1 (Dead rb w1)) := hN
    clear hN
    go_wp2_with fail
    refine (unhide HN).mono ?_; rintro e w2 ⟨rfl, hg2⟩
    go_wp2_with fail
    exact ⟨rfl, rfl, grownTrans (unhide HG1) hg2⟩
  | some p =>
    obtain ⟨n, rest⟩ := p
    have HN : Hid (Calls Tryz.prog 182 #[.pointer (some ⟨rb, 0, none⟩), .int .u8 101] w1 (Took rb rest (fun v _ => v = .int .i64 n) w1)) := hN
    clear hN
    go_wp2_with fail
    refine (unhide HN).mono ?_; rintro e w2 ⟨_, rfl, rfl, hr2, hg2⟩
    have hh2 : w2.heap[w.heap.size]? = some (.cells zeroCells 66 (0, 0)) := by
      rw [hg2.block w.heap.size hz1 (by simp; omega)]
      exact unhide HH1
    have HG2 := hide (grownTrans (unhide HG1) hg2); have HR2 := hide hr2
    have f0 := (boxAt hh2 0).1; have f1 := (boxAt hh2 1).1; have f2 := (boxAt hh2 2).1; have f3 := (boxAt hh2 3).1; have f4 := (boxAt hh2 4).1
    have g0 := (boxAt hh2 0).2; have g1 := (boxAt hh2 1).2; have g2 := (boxAt hh2 2).2; have g3 := (boxAt hh2 3).2; have g4 := (boxAt hh2 4).2
    simp at f0 f1 f2 f3 f4
    clear hr2 hg2 hh2
    go_wp2_with fail
    exact bodyPost_ret (v := vaV 1 n ⟨#[]⟩ none 0 0 none 0 0) (by simp [results, Tryz.results103, go_sem, f0, f1, f2, f3, f4]) rfl ⟨_, rfl, rfl, (unhide HR2).keep (below5 (by omega) _ _ _ _ _), set5 (unhide HG2) (Nat.le_refl _) _ _ _ _ _⟩
end Go.Proofs.YtdmaopfaeigelaaGreatDoor
namespace Go.Proofs.YtdmaopfaeigelaaGreatDoor
set_option linter.unusedSimpArgs false
set_option linter.unusedVariables false
open Go.RowKit

/-- V lies in w, in blocks of P -/
inductive VIn (w : World) (P : Nat → Prop) : Va → Value → Prop where
  | mk (k n : Int) (s : ByteArray) (l : List Va) (ks : List ByteArray) (A : Option Addr) (c : Nat) (A' : Option Addr) (c' : Nat)
      (hk : I64 k) (hn : I64 n) (hs : s.size ≤ 140737488351232) (hl : l.length ≤ 140737488351232) (hks : ks.length ≤ 140737488351232)
      (hA : A = none → c = 0) (hA' : A' = none → c' = 0) (hcp : l.length ≤ c)
      (b o : Nat) (vv : Nat → Value) (h5 : ∀ i, i < l.length → A = some ⟨b, o, none⟩ ∧ P b ∧ Five w b (o + i * 5) (vv i))
      (hat : ∀ (i : Nat) (x : Va), l[i]? = some x → VIn w P x (vv i))
      (b' o' : Nat) (hkat : ∀ i s, ks[i]? = some s → A' = some ⟨b', o', none⟩ ∧ P b' ∧ w.cell? ⟨b', o' + i, none⟩ = some (.string s) ∧ s.size ≤ 140737488351232) :
      VIn w P (.mk k n s l ks) (vaV k n s A l.length c A' ks.length c')
theorem VIn.at {w : World} {P : Nat → Prop} {V : Va} {v : Value} (h : VIn w P V v) : VAt w V v := by
  induction h with
  | mk k n s l ks A c A' c' hk hn hs hl hks hA hA' hcp b o vv h5 hat b' o' hkat ih =>
    refine .mk k n s l ks A c A' c' hk hn hs hl hks hA hA' hcp b o vv (fun i hi => ⟨(h5 i hi).1, (h5 i hi).2.2⟩) ih fun i s hs => ?_
    obtain ⟨e, _, hc, hz⟩ := hkat i s hs
    exact ⟨b', o', e, hc, hz⟩
theorem VIn.keep {w w' : World} {P Q : Nat → Prop} {V : Va} {v : Value} (h : VIn w P V v) (hPQ : ∀ b, P b → Q b) (hw : ∀ b, P b → w'.heap[b]? = w.heap[b]?) : VIn w' Q V v := by
  induction h with
  | mk k n s l ks A c A' c' hk hn hs hl hks hA hA' hcp b o vv h5 hat b' o' hkat ih =>
    refine .mk k n s l ks A c A' c' hk hn hs hl hks hA hA' hcp b o vv (fun i hi => ?_) ih b' o' fun i s hs => ?_
    · obtain ⟨e, hp, x0, x1, x2, x3, x4, ev, c0, c1, c2, c3, c4⟩ := h5 i hi
      have hb : ∀ j, w'.cell? ⟨b, j, none⟩ = w.cell? ⟨b, j, none⟩ := fun j => World.cell?_of_block (hw b hp)
      exact ⟨e, hPQ b hp, x0, x1, x2, x3, x4, ev, (hb _).trans c0, (hb _).trans c1, (hb _).trans c2, (hb _).trans c3, (hb _).trans c4⟩
    · obtain ⟨e, hp, hc, hz⟩ := hkat i s hs
      exact ⟨e, hPQ b' hp, (World.cell?_of_block (a := ⟨b', o' + i, none⟩) (hw b' hp)).trans hc, hz⟩
theorem VIn.form {w : World} {P : Nat → Prop} {V : Va} {v : Value} (h : VIn w P V v) : ∃ k n s A m c A' m' c', v = vaV k n s A m c A' m' c' := by
  cases h
  exact ⟨_, _, _, _, _, _, _, _, _, rfl⟩
/-- made by the call: in blocks that were not there in w -/
def VNew (w : World) (V : Va) (v : Value) (w' : World) : Prop := VIn w' (fun b => w.heap.size ≤ b ∧ b < w'.heap.size) V v
theorem VIn.flat {w : World} {P : Nat → Prop} {k n : Int} {s : ByteArray} (hk : I64 k) (hn : I64 n) (hs : s.size ≤ 140737488351232) : VIn w P (.mk k n s [] []) (vaV k n s none 0 0 none 0 0) :=
  .mk k n s [] [] none 0 none 0 hk hn hs (by decide) (by decide) (fun _ => rfl) (fun _ => rfl) (Nat.le_refl _) 0 0 (fun _ => zeroV') (fun i hi => by simp at hi) (fun i x hx => by simp at hx) 0 0 (fun i s hs => by simp at hs)
where zeroV' : Value := vaV 0 0 ⟨#[]⟩ none 0 0 none 0 0

/-! what is read -/
def elemsP (v : List UInt8 → Option (Va × List UInt8)) : Nat → List UInt8 → List Va → Option (List Va × List UInt8)
  | 0, _, _ => none
  | _ + 1, [], _ => none
  | f + 1, b :: r, acc => if b.toNat = 101 then some (acc, r) else match v (b :: r) with
    | none => none
    | some (x, q) => elemsP v f q (acc ++ [x])
/-- may the key stand behind these -/
def keyOk (ks : List ByteArray) (q : ByteArray) : Bool := match ks.getLast? with
  | none => true
  | some p => ltB p q
def pairsP (v : List UInt8 → Option (Va × List UInt8)) : Nat → List UInt8 → List Va → List ByteArray → Option ((List Va × List ByteArray) × List UInt8)
  | 0, _, _, _ => none
  | _ + 1, [], _, _ => none
  | f + 1, b :: r, acc, ks => if b.toNat = 101 then some ((acc, ks), r) else match textP (b :: r) with
    | none => none
    | some (key, q) => if keyOk ks ⟨key.toArray⟩ then match v q with
        | none => none
        | some (x, q') => pairsP v f q' (acc ++ [x]) (ks ++ [⟨key.toArray⟩])
      else none
/-- a value, its first byte at hand; sub: what the elements are read by, if they may be -/
def valF (sub : Option (List UInt8 → Option (Va × List UInt8))) : List UInt8 → Option (Va × List UInt8)
  | [] => none
  | b :: r =>
    if b.toNat = 105 then (numP 101 r).map fun p => (.mk 1 p.1 ⟨#[]⟩ [] [], p.2)
    else if b.toNat = 108 then match sub with
      | none => none
      | some v => (elemsP v (r.length + 1) r []).map fun p => (.mk 3 0 ⟨#[]⟩ p.1 [], p.2)
    else if b.toNat = 100 then match sub with
      | none => none
      | some v => (pairsP v (r.length + 1) r [] []).map fun p => (.mk 4 0 ⟨#[]⟩ p.1.1 p.1.2, p.2)
    else (textP (b :: r)).map fun p => (.mk 2 0 ⟨p.1.toArray⟩ [] [], p.2)
def valP : Nat → List UInt8 → Option (Va × List UInt8)
  | 0 => valF none
  | d + 1 => valF (some (valP d))

theorem numP_len {stop : UInt8} {bs : List UInt8} {n : Int} {q : List UInt8} (h : numP stop bs = some (n, q)) : q.length < bs.length ∧ I64 n := by
  unfold numP at h
  split at h
  · cases h
  · rename_i hi
    have hr := index_range bs stop
    split at h
    · rename_i v hv
      split at h
      · injection h with h
        injection h with h1 h2
        subst h1 h2
        refine ⟨?_, atoi_range hv⟩
        rw [List.length_drop]
        omega
      · cases h
    · cases h
theorem textP_len {bs s q : List UInt8} (h : textP bs = some (s, q)) : q.length < bs.length ∧ s.length ≤ bs.length := by
  unfold textP at h
  cases hn : numP 58 bs with
  | none => rw [hn] at h; cases h
  | some p =>
    obtain ⟨n, r⟩ := p
    rw [hn] at h
    have := (numP_len hn).1
    simp only at h
    split at h
    · injection h with h
      injection h with h1 h2
      subst h1 h2
      rw [List.length_drop, List.length_take]
      omega
    · cases h
theorem elemsP_len {v : List UInt8 → Option (Va × List UInt8)} (hv : ∀ bs x q, v bs = some (x, q) → q.length < bs.length) : ∀ (f : Nat) (bs : List UInt8) (acc l : List Va) (q : List UInt8), elemsP v f bs acc = some (l, q) → q.length < bs.length
  | 0, _, _, _, _, h => by simp [elemsP] at h
  | _ + 1, [], _, _, _, h => by simp [elemsP] at h
  | f + 1, b :: r, acc, l, q, h => by
    simp only [elemsP] at h
    split at h
    · injection h with h
      injection h with h1 h2
      subst h2
      simp
    · cases hq : v (b :: r) with
      | none => rw [hq] at h; cases h
      | some p =>
        obtain ⟨x, q'⟩ := p
        rw [hq] at h
        have h1 := hv _ _ _ hq
        have h2 := elemsP_len hv f q' _ _ _ h
        omega
theorem pairsP_len {v : List UInt8 → Option (Va × List UInt8)} (hv : ∀ bs x q, v bs = some (x, q) → q.length < bs.length) : ∀ (f : Nat) (bs : List UInt8) (acc : List Va) (ks : List ByteArray) (l) (q : List UInt8), pairsP v f bs acc ks = some (l, q) → q.length < bs.length
  | 0, _, _, _, _, _, h => by simp [pairsP] at h
  | _ + 1, [], _, _, _, _, h => by simp [pairsP] at h
  | f + 1, b :: r, acc, ks, l, q, h => by
    simp only [pairsP] at h
    split at h
    · injection h with h
      injection h with h1 h2
      subst h2
      simp
    · cases ht : textP (b :: r) with
      | none => rw [ht] at h; cases h
      | some p =>
        obtain ⟨key, q0⟩ := p
        rw [ht] at h
        simp only at h
        split at h
        · cases hq : v q0 with
          | none => rw [hq] at h; cases h
          | some p =>
            obtain ⟨x, q'⟩ := p
            rw [hq] at h
            have h0 := (textP_len ht).1
            have h1 := hv _ _ _ hq
            have h2 := pairsP_len hv f q' _ _ _ _ h
            omega
        · cases h
theorem valP_len : ∀ (d : Nat) (bs : List UInt8) (x : Va) (q : List UInt8), valP d bs = some (x, q) → q.length < bs.length := by
  have step : ∀ (sub : Option (List UInt8 → Option (Va × List UInt8))), (∀ v, sub = some v → ∀ bs x q, v bs = some (x, q) → q.length < bs.length) → ∀ (bs : List UInt8) (x : Va) (q : List UInt8), valF sub bs = some (x, q) → q.length < bs.length := by
    intro sub hsub bs x q h
    cases bs with
    | nil => simp [valF] at h
    | cons b r =>
      simp only [valF] at h
      split at h
      · obtain ⟨⟨n, q'⟩, h1, h2⟩ := Option.map_eq_some_iff.1 h
        injection h2 with _ h2
        subst h2
        have := (numP_len h1).1
        simp; omega
      split at h
      · cases sub with
        | none => cases h
        | some v =>
          obtain ⟨⟨l, q'⟩, h1, h2⟩ := Option.map_eq_some_iff.1 h
          injection h2 with _ h2
          subst h2
          have := elemsP_len (hsub v rfl) _ _ _ _ _ h1
          simp; omega
      split at h
      · cases sub with
        | none => cases h
        | some v =>
          obtain ⟨⟨l, q'⟩, h1, h2⟩ := Option.map_eq_some_iff.1 h
          injection h2 with _ h2
          subst h2
          have := pairsP_len (hsub v rfl) _ _ _ _ _ _ h1
          simp; omega
      · obtain ⟨⟨l, q'⟩, h1, h2⟩ := Option.map_eq_some_iff.1 h
        injection h2 with _ h2
        subst h2
        have := (textP_len h1).1
        simpa using this
  intro d
  induction d with
  | zero => exact step none (fun v h => by cases h)
  | succ d ih => exact step (some (valP d)) (fun v h => by injection h with h; subst h; exact ih)
end Go.Proofs.YtdmaopfaeigelaaGreatDoor
