/- Contracts over the codec's program, each for all bytes: the reader's number. -/
import Derived.Test.YtclpbjdnollfcaaDoorCodReader2
namespace Go.Proofs.YtclpbjdnollfcaaDoor
set_option linter.unusedSimpArgs false
set_option linter.unusedVariables false
open Go.RowKit

def numP (stop : UInt8) (bs : List UInt8) : Option (Int × List UInt8) :=
  if Lib.indexByte bs stop < 0 then none
  else match Lib.atoiAll (bs.take (Lib.indexByte bs stop).toNat) with
    | .ok v => if Lib.itoa v = bs.take (Lib.indexByte bs stop).toNat then some (v, bs.drop ((Lib.indexByte bs stop).toNat + 1)) else none
    | _ => none
/-- how a method ends whose pure function is p -/
def Ends {α : Type} (rb : Nat) (p : Option (α × List UInt8)) (val : α → Value → World → Prop) (w : World) (e : Ending) (w' : World) : Prop :=
  match p with
  | none => Dead rb w e w'
  | some (a, rest) => Took rb rest (val a) w e w'

theorem index_range : ∀ (bs : List UInt8) (c : UInt8), Lib.indexByte bs c = -1 ∨ (0 ≤ Lib.indexByte bs c ∧ Lib.indexByte bs c < (bs.length : Int))
  | [], c => by simp [Lib.indexByte]
  | b :: l, c => by
    have h := index_range l c
    simp only [Lib.indexByte, List.length_cons]
    split
    · right; omega
    · rcases h with h | h
      · left; simp [h]
      · right
        have : (Lib.indexByte l c == -1) = false := by simp; omega
        rw [this]
        simp
        omega
theorem index_at (w : World) (rb : Nat) (A : Option Addr) (bs : List UInt8) (stop : UInt8) (hA : A = none ∧ bs = [] ∨ ∃ g o, A = some ⟨g, o, none⟩ ∧ g < rb) (hb : BytesAt w rb A bs) :
    Calls Tryd.prog 64 #[.slice A bs.length bs.length, .int .u8 (stop.toNat : Int)] w fun e w' => e = .returned (.int .i64 (Lib.indexByte bs stop)) ∧ w' = w := by
  rcases hA with ⟨rfl, rfl⟩ | ⟨g, o, rfl, hne⟩
  · exact Tryd.bytes_IndexByte_nil (stop.toNat : Int) w
  · refine (Tryd.bytes_IndexByte_at ⟨g, o, none⟩ bs.length bs.length (bs.map fun b => (b.toNat : Int)) (stop.toNat : Int) w (by simp) fun i hi => ?_).mono ?_
    · obtain ⟨g', o', e, _, hc⟩ := hb i _ (List.getElem?_eq_getElem hi)
      injection e with e
      injection e with e1 e2
      subst e1 e2
      have : (⟨g, o, none⟩ : Addr).add i = ⟨g, o + i, none⟩ := by
        unfold Addr.add
        split
        · rename_i e; simp [e]
        · rfl
      rw [this, hc, List.getD_eq_getElem?_getD, List.getElem?_map, List.getElem?_eq_getElem hi]
      rfl
    rintro e w' ⟨rfl, rfl⟩
    refine ⟨?_, rfl⟩
    have e1 : Lib.bytesOf (bs.map fun b => (b.toNat : Int)) = bs := by
      rw [Lib.bytesOf, List.map_map]
      exact (List.map_congr_left (g := id) fun b _ => by simp).trans (List.map_id _)
    have e2 : ((stop.toNat : Int)).toNat.toUInt8 = stop := by simp
    rw [e1, e2]

/-- strconv.Atoi, as one contract -/
def AtoiIs (l : List UInt8) (w : World) (e : Ending) (w' : World) : Prop :=
  (match Lib.atoiAll l with
    | .ok v => e = .returned (.tuple #[.int .i64 v, .nilIface])
    | _ => ∃ n t p, e = .returned (.tuple #[.int .i64 n, .iface t p])) ∧ Below w.heap.size w w'
theorem numEnd_cases (e : Lib.NumEnd Int) : (∃ v, e = .ok v) ∨ e = Lib.atoiAll [] ∨ e = .range := by
  cases e <;> first | exact .inl ⟨_, rfl⟩ | exact .inr (.inl rfl) | exact .inr (.inr rfl)
theorem atoi_any (s : ByteArray) (w : World) (hs : s.size ≤ 140737488351232) (hE : Env w) (hw : gTop ≤ w.heap.size) : Calls Tryd.prog 65 #[.string s] w (AtoiIs s.data.toList w) := by
  obtain ⟨_, ⟨t1, p1, h1⟩, ⟨t2, p2, h2⟩⟩ := hE w (Below.refl _ _)
  rcases numEnd_cases (Lib.atoiAll s.data.toList) with ⟨v, h⟩ | h | h
  · refine (Tryd.strconv_Atoi_ok s (by omega) v h w).mono ?_
    rintro e w' ⟨rfl, hw'⟩
    refine ⟨by rw [h], ?_⟩
    rcases hw' with rfl | ⟨t, rfl⟩
    · exact Below.refl _ _
    · exact Lib.bytesWorld_below _ _ _
  · refine (Tryd.strconv_Atoi_syntax s (by omega) h _ w h1 (.inr ⟨_, _, rfl⟩)).mono ?_
    rintro e w' ⟨N, rfl, _, _, hb⟩
    exact ⟨by rw [h]; exact ⟨_, _, _, rfl⟩, hb⟩
  · refine (Tryd.strconv_Atoi_range s (by omega) h _ w h2 (.inr ⟨_, _, rfl⟩)).mono ?_
    rintro e w' ⟨N, rfl, _, _, hb⟩
    exact ⟨by rw [h]; exact ⟨_, _, _, rfl⟩, hb⟩

theorem grownTrans {a b c : World} {rb : Nat} (h : a.grownBy b (some rb)) (k : b.grownBy c (some rb)) : a.grownBy c (some rb) := World.grownBy.trans h k
theorem growBelow (w : World) (k : Nat) (os : Array Obj) : Below w.heap.size w (Go.Sort.grow (w.drewN k) os) :=
  ⟨rfl, rfl, rfl, by simp [Go.Sort.grow], fun i hi => by simp only [Go.Sort.grow]; exact Array.getElem?_append_left hi⟩

theorem itoa_any (n : Int) (w : World) (hn : I64 n) (hE : Env w) : Calls Tryd.prog 66 #[.int .i64 n] w fun e w' => e = .returned (.string ⟨(Lib.itoa n).toArray⟩) ∧ Below w.heap.size w w' := by
  refine (Tryd.strconv_Itoa n hn.1 hn.2 w (hE w (Below.refl _ _)).1).mono ?_
  rintro e w' ⟨rfl, k, os, rfl⟩
  exact ⟨rfl, growBelow w k os⟩
theorem atoi_range {l : List UInt8} {v : Int} (h : Lib.atoiAll l = .ok v) : I64 v := by
  unfold Lib.atoiAll at h
  split at h
  · cases h
  · simp only at h
    split at h
    · cases h
    · cases h
    · split at h
      · cases h
      · split at h
        · cases h
        · rename_i u hu h1 h2
          injection h with h
          unfold I64
          split at h <;> omega

set_option maxHeartbeats 2000000 in
theorem number_neg (stop : UInt8) (w : World) (rb : Nat) (bs : List UInt8) (h : RdAt w rb bs) (hi : Lib.indexByte bs stop < 0) :
    Calls Tryd.prog 60 #[.pointer (some ⟨rb, 0, none⟩), .int .u8 (stop.toNat : Int)] w (Dead rb w) := by
  have hT := take_bad (Lib.indexByte bs stop) w rb bs h (.inl hi)
  obtain ⟨A, hA, hc, hf, hb, hl, _⟩ := h.open
  have hI := index_at w rb A bs stop hA hb
  generalize Lib.indexByte bs stop = i at hT hI
  generalize bs.length = m at hc hI hl
  have HT := hide hT; have HI := hide hI
  clear hT hI hA hb
  go_enter Tryd.func60, Tryd.ntmps60
  go_wp2_with fail
  refine (unhide HI).mono ?_; rintro e w1 ⟨rfl, rfl⟩
  go_wp2_with fail
  refine (unhide HT).mono ?_; rintro e w2 ⟨rfl, hg⟩
  go_wp2_with fail
  exact ⟨rfl, rfl, hg⟩

theorem grownRefl {w : World} {rb : Nat} : w.grownBy w (some rb) := World.grownBy.refl _ _

theorem toList_inj' {s t : ByteArray} (h : s.toList = t.toList) : s = t := by
  rw [ByteArray.toList_eq, ByteArray.toList_eq] at h
  cases s; cases t
  simp at h
  simp [h]

set_option maxHeartbeats 4000000 in
theorem number_pos (stop : UInt8) (w : World) (rb k : Nat) (bs : List UInt8) (h : RdAt w rb bs) (hi : Lib.indexByte bs stop = (k : Int)) (hk : k < bs.length) (hE : Env w) (hw : gTop ≤ w.heap.size) (hrb : gTop ≤ rb) (r : Option (Int × List UInt8))
    (hres : r = match Lib.atoiAll (bs.take k) with | .ok v => if Lib.itoa v = bs.take k then some (v, bs.drop (k + 1)) else none | _ => none) :
    Calls Tryd.prog 60 #[.pointer (some ⟨rb, 0, none⟩), .int .u8 (stop.toNat : Int)] w
      (Ends rb r (fun n v _ => v = .int .i64 n) w) := by
  have hT := take_any k w rb bs h (by omega)
  obtain ⟨A, hA, hc, hf, hb, hl, _⟩ := h.open
  have hI := index_at w rb A bs stop hA hb
  rw [hi] at hI
  have hdl : (bs.take k).length ≤ 140737488351232 := by rw [List.length_take]; omega
  have hdd : (bs.drop k).length = bs.length - k := by simp
  have hpos : 1 ≤ (bs.drop k).length := by omega
  have hd1 : (bs.drop k).drop 1 = bs.drop (k + 1) := by rw [List.drop_drop]
  generalize bs.take k = ds at hT hdl hres
  generalize bs.drop k = rs at hT hpos hd1
  generalize bs.drop (k + 1) = rest at hd1 hres
  generalize bs.length = m at hc hI hl
  have HT := hide hT; have HI := hide hI; have HD := hide hd1; have HE := hide hE; have HP := hide hpos; have HRES := hide hres
  clear hT hI hA hb hi hk hE hd1 hdd hpos hres
  have hsz : (⟨ds.toArray⟩ : ByteArray).size ≤ 140737488351232 := by show ds.toArray.size ≤ _; simpa using hdl
  have hat := fun (W : World) (hEW : Env W) (hwW : gTop ≤ W.heap.size) => atoi_any ⟨ds.toArray⟩ W hsz hEW hwW
  have hAT : Hid (∀ W, Env W → gTop ≤ W.heap.size → Calls Tryd.prog 65 #[.string ⟨ds.toArray⟩] W (AtoiIs ds W)) := fun W h1 h2 => by simpa using hat W h1 h2
  have hci : ∀ (v : Int), Lib.itoa v = ds ↔ (⟨(Lib.itoa v).toArray⟩ : ByteArray) = ⟨ds.toArray⟩ := fun v => by simp
  have HCI := hide hci
  have hcv := fun (W : World) (v : Value) (h : TookBytes rb ds v W) => conv_any h
  have HCV := hide hcv
  generalize (⟨ds.toArray⟩ : ByteArray) = sd at hAT HCI HCV
  clear hat hci hcv hsz hdl
  go_enter Tryd.func60, Tryd.ntmps60
  go_wp2_with fail
  refine (unhide HI).mono ?_; rintro e w0 ⟨rfl, rfl⟩
  go_wp2_with fail
  refine (unhide HT).mono ?_; rintro e w1 ⟨v1, rfl, hv1, hr1, hg1⟩
  have hcv := (unhide HCV) w1 v1 hv1
  have HR1 := hide hr1; have HG1 := hide hg1
  clear hv1 hr1 hg1
  go_wp2_with fail
  refine (take_any 1 w1 rb rs (unhide HR1) (unhide HP)).mono ?_; rintro e w2 ⟨v2, rfl, _, hr2, hg2⟩
  rw [unhide HD] at hr2
  have HR2 := hide hr2; have HG2 := hide (grownTrans (unhide HG1) hg2)
  clear hr2 hg2 hcv
  have hE2 := (unhide HE).grown (unhide HG2) hw hrb
  have hw2 : gTop ≤ w2.heap.size := Nat.le_trans hw (unhide HG2).size
  have HE2 := hide hE2
  clear hE2
  go_wp2_with fail
  refine (hAT w2 (unhide HE2) hw2).mono ?_
  rintro e w3 ⟨he, hb3⟩
  have HB3 := hide hb3; clear hb3
  rcases numEnd_cases (Lib.atoiAll ds) with ⟨v, hq⟩ | hq | hq
  · rw [hq] at he
    simp only at he
    subst he
    have hI := fun (W : World) (hEW : Env W) => itoa_any v W (atoi_range hq) hEW
    have hE3 : Env w3 := (unhide HE2).along ((unhide HB3).mono hw2)
    have hcv := (unhide HCI) v
    by_cases heq : Lib.itoa v = ds
    · have hI3 := hI w3 hE3
      rw [hcv.1 heq] at hI3
      have HI3 := hide hI3; have HEQ := hide heq
      have HQ := hide hq
      clear hI3 heq hcv hI hE3 hq
      go_wp2_with fail
      refine (unhide HI3).mono ?_; rintro e w4 ⟨rfl, hb4⟩
      have HB4 := hide hb4; clear hb4
      go_wp2_with fail
      go_ret
      have hr := unhide HRES
      rw [unhide HQ] at hr
      simp only [unhide HEQ, if_true] at hr
      subst hr
      exact ⟨_, rfl, rfl, ((unhide HR2).below (unhide HB3)).below (unhide HB4), grownTrans (grownTrans (unhide HG2) (belowGrown rb (unhide HB3))) (belowGrown rb (unhide HB4))⟩
    · have hI3 := hI w3 hE3
      have hne : ¬ (⟨(Lib.itoa v).toArray⟩ : ByteArray) = sd := fun h => heq (hcv.2 h)
      have HEQ := hide heq
      generalize (⟨(Lib.itoa v).toArray⟩ : ByteArray) = si at hI3 hne
      have hnl : ¬ si.toList = sd.toList := fun h => hne (toList_inj' h)
      have hnb : (!(si.toList == sd.toList)) = true := by simp [hnl]
      have HI3 := hide hI3; have HQ := hide hq
      clear hI3 heq hcv hI hE3 hq hne
      go_wp2_with fail
      refine (unhide HI3).mono ?_; rintro e w4 ⟨rfl, hb4⟩
      have HB4 := hide hb4; clear hb4
      go_wp2_with fail
      have hr := unhide HRES
      rw [unhide HQ] at hr
      simp only [if_neg (unhide HEQ)] at hr
      subst hr
      exact ⟨rfl, rfl, grownTrans (grownTrans (unhide HG2) (belowGrown rb (unhide HB3))) (belowGrown rb (unhide HB4))⟩
  · rw [hq] at he
    obtain ⟨n, t, p, rfl⟩ := he
    have HQ := hide hq; clear hq
    go_wp2_with fail
    have hr := unhide HRES
    rw [unhide HQ] at hr
    subst hr
    exact ⟨rfl, rfl, grownTrans (unhide HG2) (belowGrown rb (unhide HB3))⟩
  · rw [hq] at he
    obtain ⟨n, t, p, rfl⟩ := he
    have HQ := hide hq; clear hq
    go_wp2_with fail
    have hr := unhide HRES
    rw [unhide HQ] at hr
    subst hr
    exact ⟨rfl, rfl, grownTrans (unhide HG2) (belowGrown rb (unhide HB3))⟩

theorem number_any (stop : UInt8) (w : World) (rb : Nat) (bs : List UInt8) (h : RdAt w rb bs) (hE : Env w) (hw : gTop ≤ w.heap.size) (hrb : gTop ≤ rb) :
    Calls Tryd.prog 60 #[.pointer (some ⟨rb, 0, none⟩), .int .u8 (stop.toNat : Int)] w (Ends rb (numP stop bs) (fun n v _ => v = .int .i64 n) w) := by
  rcases index_range bs stop with hi | ⟨h0, h1⟩
  · have e : numP stop bs = none := by unfold numP; rw [if_pos (by omega)]
    rw [e]
    exact number_neg stop w rb bs h (by omega)
  · obtain ⟨k, hk⟩ : ∃ k : Nat, Lib.indexByte bs stop = k := ⟨(Lib.indexByte bs stop).toNat, by omega⟩
    refine number_pos stop w rb k bs h hk (by omega) hE hw hrb _ ?_
    unfold numP
    rw [if_neg (by omega), hk]
    rfl
end Go.Proofs.YtclpbjdnollfcaaDoor
