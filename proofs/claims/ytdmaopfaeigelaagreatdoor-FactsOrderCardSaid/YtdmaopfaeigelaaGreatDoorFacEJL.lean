/- Contracts over the program of facts: the elements of facts of all kinds. Contracts over the program of facts: the value of every valid fact; Encode of every fact. Contracts over the program of facts: Encode of every fact. -/
import Derived.Test.YtdmaopfaeigelaaGreatDoorFacEGI
import Derived.Laws.BytesString
import Derived.Lib.BufferRead
import Derived.Test.YtdmaopfaeigelaaGreatDoorFacZ
namespace Go.Proofs.YtdmaopfaeigelaaGreatDoor
set_option linter.unusedSimpArgs false
set_option linter.unusedVariables false
set_option maxRecDepth 100000
open Go.RowKit Go.Shelf

theorem fadd_flat (b o j : Nat) : (⟨b, o, none⟩ : Addr).add j = ⟨b, o + j, none⟩ := by simp [Addr.add]
def fstrOf (l : List Int) : ByteArray := l.foldl (fun r n => r.push (UInt8.ofNat n.toNat)) ByteArray.empty
theorem fconv_bytes (w : World) (b o n c : Nat) (l : List Int) (hn : n = l.length) (hA : ∀ j, j < l.length → w.cell? ⟨b, o + j, none⟩ = some (.int .u8 (l.getD j 0))) :
    (convert 52 9 (.slice (some ⟨b, o, none⟩) n c)).run Tryz.prog w = .ok (.string (fstrOf l)) w := by
  subst hn
  rw [run_convert_bytes_string w _ _ _ (some ⟨b, o, none⟩) l.length c Tryz.underlying52 Tryz.underlying5 Tryz.underlying9]
  refine run_bytesToString w ⟨b, o, none⟩ l.length c l ?_
  have h := run_loadCells_list (P := Tryz.prog) (w := w) ⟨b, o, none⟩ (l.map (Value.int .u8)) (fun j v hv => by
    have hj : j < l.length := by simpa using (List.getElem?_eq_some_iff.1 hv).1
    have h1 := hA j hj
    rw [List.getElem?_map, List.getElem?_eq_getElem hj] at hv
    injection hv with hv
    rw [List.getD_eq_getElem?_getD, List.getElem?_eq_getElem hj] at h1
    rw [fadd_flat]
    exact h1.trans (congrArg some hv))
  simpa using h
theorem fstrOf_size (l : List Int) : (fstrOf l).size = l.length := by
  have key : ∀ (l : List Int) (r : ByteArray), (l.foldl (fun r n => r.push (UInt8.ofNat n.toNat)) r).size = r.size + l.length := by
    intro l
    induction l with
    | nil => intro r; rfl
    | cons x l ih => intro r; rw [List.foldl_cons, ih, ByteArray.size_push, List.length_cons]; omega
  unfold fstrOf
  rw [key]
  show 0 + l.length = l.length
  omega
theorem SlF.of {w W' : World} {X : Nat} {A : Option Addr} {l : List Int} {k : Nat} (h : Sl w A l k) (hb : Below w.heap.size w W') (hX : w.heap.size ≤ X) (h0 : VsAt W' X 66 (listL (.slice none 0 0))) : SlF X W' A l k := by
  refine ⟨h.keep hb, fun b o e hn => ?_⟩
  obtain ⟨b', o', e', hc⟩ := h.it.at_ hn
  rw [e] at e'
  injection e' with e'
  injection e' with e1 e2
  subst e1 e2
  have hpos : 0 < l.length := by
    cases l with
    | nil => exact absurd rfl hn
    | cons => simp
  have h1 := hc 0 hpos
  have hlt := lt_of_cell h1
  obtain ⟨ob, ho, hcl⟩ := cells_of_cell h1
  refine ⟨fun e => by have : b < w.heap.size := hlt; omega, ⟨ob, (hb.block b hlt).trans ho, hcl⟩, fun v hv => ?_⟩
  have := listL_inj (vs_same hv h0)
  subst this
  exact fun e => by cases e
theorem ScF.of {w W' : World} {X : Nat} {A : Option Addr} {l : List Cd} {k : Nat} (h : Sc w A l k) (hb : Below w.heap.size w W') (hX : w.heap.size ≤ X) (h0 : VsAt W' X 66 (listL (.slice none 0 0))) : ScF X W' A l k := by
  refine ⟨h.keep hb, fun b o e hn => ?_⟩
  obtain ⟨b', o', e', hc⟩ := h.it.at_ hn
  rw [e] at e'
  injection e' with e'
  injection e' with e1 e2
  subst e1 e2
  obtain ⟨x, hx⟩ : ∃ x, l[0]? = some x := by
    cases l with
    | nil => exact absurd rfl hn
    | cons x r => exact ⟨x, rfl⟩
  have h1 := (hc 0 x hx).1
  have hlt := lt_of_cell h1
  obtain ⟨ob, ho, hcl⟩ := cells_of_cell h1
  refine ⟨fun e => by have : b < w.heap.size := hlt; omega, ⟨ob, (hb.block b hlt).trans ho, hcl⟩, fun v hv => ?_⟩
  have := listL_inj (vs_same hv h0)
  subst this
  exact fun e => by cases e
def whatK (k : Int) (f : Fc) : List Va := match k with
  | 1 => [numA f.e.s, numA f.e.c, numsA f.e.clubs, textA f.e.rules]
  | 2 => [numsA (gameL f.xg), numA f.venue]
  | 3 => [numsA (gameL f.sh.g), numA f.sh.rf, numA f.sh.hg, numA f.sh.ag, numA f.sh.hp, numA f.sh.ap, numsA f.sh.hs, numsA f.sh.as_, cardsA f.sh.hc, cardsA f.sh.ac]
  | 4 => [numA f.r.cas, numA f.r.ins, numA f.r.kind, numsA (gameL f.r.g), numA f.r.club, numA f.r.player, numA f.r.s, numA f.r.c, numA f.r.points, numA f.r.amount, numA f.r.hg, numA f.r.ag, numA f.r.from_, numA f.r.to_]
  | 5 => [numA f.ac, numA f.ai, numA (if f.susp then 1 else 0)]
  | 6 => [numA f.mp, numA f.mt]
  | 7 => [numA f.ls, numA f.lc, numsA f.order]
  | 8 => [textA (fstrOf f.void)]
  | _ => []
def whatV (f : Fc) : List Va := whatK f.kind f
/-- what the elements leave -/
def EDone (X B : Nat) (J : List Raw → World → Prop) (f : Fc) (e : Ending) (V : World) : Prop := (∃ v, e = .returned v) ∧ ∃ ys, Its X B J (whatV f) ys V
set_option maxHeartbeats 4000000 in
theorem el1_in (f : Fc) (a : Ad) (hk : f.kind = 1) (hs : AllI [f.e.s, f.e.c]) (hl : AllI f.e.clubs) (hr : f.e.rules.size ≤ 140737488351232) (X L N B D : Nat) (J : List Raw → World → Prop) (hJ : AbidesFrom D J) (hY : YOn X L N J) (Bf : Nat) (W : World) (hI : Its X B J [] [] W) (hN : 40 ≤ N) (hb : Bx X W Bf 45 (fC f a)) (hA : SlF X W a.cl f.e.clubs a.ncl) :
    CallsIn Fence.wide 4 Tryz.prog 147 #[.func (.yield L) #[] #[], .pointer (some ⟨Bf, 0, none⟩)] W (EDone X B J f) := by
  have HC := hide (yEnt_in 3 (by omega) X L N B D J hJ hY f.e.s f.e.c f.e.clubs f.e.rules a.cl a.ncl hs hl hr [] [] W hI (by simp; omega) hA)
  have HWV : Hid (∀ Vs, Vs = whatV f → True) := fun _ _ => trivial
  have h0 : W.cell? ⟨Bf, 0, none⟩ = some (.int .i64 1) := by rw [← hk]; exact hb.at_.cell rfl
  have hc3 : W.cell? ⟨Bf, 3, none⟩ = some (.int .i64 f.e.s) := hb.at_.cell rfl
  have hc4 : W.cell? ⟨Bf, 4, none⟩ = some (.int .i64 f.e.c) := hb.at_.cell rfl
  have hc5 : W.cell? ⟨Bf, 5, none⟩ = some (.slice a.cl f.e.clubs.length a.ncl) := hb.at_.cell rfl
  have hc6 : W.cell? ⟨Bf, 6, none⟩ = some (.string f.e.rules) := hb.at_.cell rfl
  have HK := hide hk
  clear hJ hY hI hN hb hk HWV hA hs hl hr
  refine callsIn_of_wp Tryz.func147 rfl trivial ?_ rfl
  simp only [Tryz.ntmps147, List.size_toArray, List.length_cons, List.length_nil, Nat.reduceAdd, Nat.reduceSub, Array.replicate_succ, Array.replicate_zero, List.push_toArray, List.append_toArray, List.nil_append, List.cons_append]
  gi_wp2_with fail
  refine ⟨trivial, (unhide HC).mono ?_⟩
  rintro e V ⟨rfl, ⟨ys, hys⟩, _⟩
  have HD : Hid (∀ v, EDone X B J f (.returned v) V) := fun v => ⟨⟨_, rfl⟩, ys, by
    have e : whatV f = whatK 1 f := by unfold whatV; rw [unhide HK]
    rw [e]
    exact hys⟩
  clear hys HC h0 hc3 hc4 hc5 hc6
  gi_wp2
  go_end0
  exact (unhide HD) _
set_option maxHeartbeats 4000000 in
theorem el2_in (f : Fc) (a : Ad) (hk : f.kind = 2) (hg : AllI (gameL f.xg)) (hv : I64 f.venue) (X L N B D : Nat) (J : List Raw → World → Prop) (hJ : AbidesFrom D J) (hY : YOn X L N J) (Bf : Nat) (W : World) (hI : Its X B J [] [] W) (hN : 40 ≤ N) (hb : Bx X W Bf 45 (fC f a))  :
    CallsIn Fence.wide 4 Tryz.prog 147 #[.func (.yield L) #[] #[], .pointer (some ⟨Bf, 0, none⟩)] W (EDone X B J f) := by
  have HC := hide (yFix_in 3 (by omega) X L N B D J hJ hY f.xg f.venue hg hv [] [] W hI (by simp; omega) )
  have HWV : Hid (∀ Vs, Vs = whatV f → True) := fun _ _ => trivial
  have h0 : W.cell? ⟨Bf, 0, none⟩ = some (.int .i64 2) := by rw [← hk]; exact hb.at_.cell rfl
  have hc7 : W.cell? ⟨Bf, 7, none⟩ = some (.int .i64 f.xg.s) := hb.at_.cell rfl
  have hc8 : W.cell? ⟨Bf, 8, none⟩ = some (.int .i64 f.xg.c) := hb.at_.cell rfl
  have hc9 : W.cell? ⟨Bf, 9, none⟩ = some (.int .i64 f.xg.h) := hb.at_.cell rfl
  have hc10 : W.cell? ⟨Bf, 10, none⟩ = some (.int .i64 f.xg.a) := hb.at_.cell rfl
  have hc11 : W.cell? ⟨Bf, 11, none⟩ = some (.int .i64 f.venue) := hb.at_.cell rfl
  have HK := hide hk
  clear hJ hY hI hN hb hk HWV  hg hv
  refine callsIn_of_wp Tryz.func147 rfl trivial ?_ rfl
  simp only [Tryz.ntmps147, List.size_toArray, List.length_cons, List.length_nil, Nat.reduceAdd, Nat.reduceSub, Array.replicate_succ, Array.replicate_zero, List.push_toArray, List.append_toArray, List.nil_append, List.cons_append]
  gi_wp2_with fail
  refine ⟨trivial, (unhide HC).mono ?_⟩
  rintro e V ⟨rfl, ⟨ys, hys⟩, _⟩
  have HD : Hid (∀ v, EDone X B J f (.returned v) V) := fun v => ⟨⟨_, rfl⟩, ys, by
    have e : whatV f = whatK 2 f := by unfold whatV; rw [unhide HK]
    rw [e]
    exact hys⟩
  clear hys HC h0 hc7 hc8 hc9 hc10 hc11
  gi_wp2
  go_end0
  exact (unhide HD) _
set_option maxHeartbeats 4000000 in
theorem el3_in (f : Fc) (a : Ad) (hk : f.kind = 3) (hg : AllI (gameL f.sh.g)) (hn : AllI [f.sh.rf, f.sh.hg, f.sh.ag, f.sh.hp, f.sh.ap]) (h1 : AllI f.sh.hs) (h2 : AllI f.sh.as_) (h3 : AllC f.sh.hc) (h4 : AllC f.sh.ac) (X L N B D : Nat) (J : List Raw → World → Prop) (hJ : AbidesFrom D J) (hY : YOn X L N J) (Bf : Nat) (W : World) (hI : Its X B J [] [] W) (hN : 40 ≤ N) (hb : Bx X W Bf 45 (fC f a)) (hA1 : SlF X W a.hs f.sh.hs a.nhs) (hA2 : SlF X W a.as_ f.sh.as_ a.nas) (hA3 : ScF X W a.hc f.sh.hc a.nhc) (hA4 : ScF X W a.ac f.sh.ac a.nac) :
    CallsIn Fence.wide 4 Tryz.prog 147 #[.func (.yield L) #[] #[], .pointer (some ⟨Bf, 0, none⟩)] W (EDone X B J f) := by
  have HC := hide (yShe_in 3 (by omega) X L N B D J hJ hY f.sh a.hs a.nhs a.as_ a.nas a.hc a.nhc a.ac a.nac hg hn h1 h2 h3 h4 [] [] W hI (by simp; omega) hA1 hA2 hA3 hA4)
  have HWV : Hid (∀ Vs, Vs = whatV f → True) := fun _ _ => trivial
  have h0 : W.cell? ⟨Bf, 0, none⟩ = some (.int .i64 3) := by rw [← hk]; exact hb.at_.cell rfl
  have hc12 : W.cell? ⟨Bf, 12, none⟩ = some (.int .i64 f.sh.g.s) := hb.at_.cell rfl
  have hc13 : W.cell? ⟨Bf, 13, none⟩ = some (.int .i64 f.sh.g.c) := hb.at_.cell rfl
  have hc14 : W.cell? ⟨Bf, 14, none⟩ = some (.int .i64 f.sh.g.h) := hb.at_.cell rfl
  have hc15 : W.cell? ⟨Bf, 15, none⟩ = some (.int .i64 f.sh.g.a) := hb.at_.cell rfl
  have hc16 : W.cell? ⟨Bf, 16, none⟩ = some (.int .i64 f.sh.rf) := hb.at_.cell rfl
  have hc17 : W.cell? ⟨Bf, 17, none⟩ = some (.int .i64 f.sh.hg) := hb.at_.cell rfl
  have hc18 : W.cell? ⟨Bf, 18, none⟩ = some (.int .i64 f.sh.ag) := hb.at_.cell rfl
  have hc19 : W.cell? ⟨Bf, 19, none⟩ = some (.int .i64 f.sh.hp) := hb.at_.cell rfl
  have hc20 : W.cell? ⟨Bf, 20, none⟩ = some (.int .i64 f.sh.ap) := hb.at_.cell rfl
  have hc21 : W.cell? ⟨Bf, 21, none⟩ = some (.slice a.hs f.sh.hs.length a.nhs) := hb.at_.cell rfl
  have hc22 : W.cell? ⟨Bf, 22, none⟩ = some (.slice a.as_ f.sh.as_.length a.nas) := hb.at_.cell rfl
  have hc23 : W.cell? ⟨Bf, 23, none⟩ = some (.slice a.hc f.sh.hc.length a.nhc) := hb.at_.cell rfl
  have hc24 : W.cell? ⟨Bf, 24, none⟩ = some (.slice a.ac f.sh.ac.length a.nac) := hb.at_.cell rfl
  have HK := hide hk
  clear hJ hY hI hN hb hk HWV hA1 hA2 hA3 hA4 hg hn h1 h2 h3 h4
  refine callsIn_of_wp Tryz.func147 rfl trivial ?_ rfl
  simp only [Tryz.ntmps147, List.size_toArray, List.length_cons, List.length_nil, Nat.reduceAdd, Nat.reduceSub, Array.replicate_succ, Array.replicate_zero, List.push_toArray, List.append_toArray, List.nil_append, List.cons_append]
  gi_wp2_with fail
  refine ⟨trivial, (unhide HC).mono ?_⟩
  rintro e V ⟨rfl, ⟨ys, hys⟩, _⟩
  have HD : Hid (∀ v, EDone X B J f (.returned v) V) := fun v => ⟨⟨_, rfl⟩, ys, by
    have e : whatV f = whatK 3 f := by unfold whatV; rw [unhide HK]
    rw [e]
    exact hys⟩
  clear hys HC h0 hc12 hc13 hc14 hc15 hc16 hc17 hc18 hc19 hc20 hc21 hc22 hc23 hc24
  gi_wp2
  go_end0
  exact (unhide HD) _
set_option maxHeartbeats 4000000 in
theorem el4_in (f : Fc) (a : Ad) (hk : f.kind = 4) (h1 : AllI [f.r.cas, f.r.ins, f.r.kind]) (hg : AllI (gameL f.r.g)) (h2 : AllI [f.r.club, f.r.player, f.r.s, f.r.c, f.r.points, f.r.amount]) (h3 : AllI [f.r.hg, f.r.ag, f.r.from_, f.r.to_]) (X L N B D : Nat) (J : List Raw → World → Prop) (hJ : AbidesFrom D J) (hY : YOn X L N J) (Bf : Nat) (W : World) (hI : Its X B J [] [] W) (hN : 40 ≤ N) (hb : Bx X W Bf 45 (fC f a))  :
    CallsIn Fence.wide 4 Tryz.prog 147 #[.func (.yield L) #[] #[], .pointer (some ⟨Bf, 0, none⟩)] W (EDone X B J f) := by
  have HC := hide (yRul_in 3 (by omega) X L N B D J hJ hY f.r h1 hg h2 h3 [] [] W hI (by simp; omega) )
  have HWV : Hid (∀ Vs, Vs = whatV f → True) := fun _ _ => trivial
  have h0 : W.cell? ⟨Bf, 0, none⟩ = some (.int .i64 4) := by rw [← hk]; exact hb.at_.cell rfl
  have hc25 : W.cell? ⟨Bf, 25, none⟩ = some (.int .i64 f.r.cas) := hb.at_.cell rfl
  have hc26 : W.cell? ⟨Bf, 26, none⟩ = some (.int .i64 f.r.ins) := hb.at_.cell rfl
  have hc27 : W.cell? ⟨Bf, 27, none⟩ = some (.int .i64 f.r.kind) := hb.at_.cell rfl
  have hc28 : W.cell? ⟨Bf, 28, none⟩ = some (.int .i64 f.r.g.s) := hb.at_.cell rfl
  have hc29 : W.cell? ⟨Bf, 29, none⟩ = some (.int .i64 f.r.g.c) := hb.at_.cell rfl
  have hc30 : W.cell? ⟨Bf, 30, none⟩ = some (.int .i64 f.r.g.h) := hb.at_.cell rfl
  have hc31 : W.cell? ⟨Bf, 31, none⟩ = some (.int .i64 f.r.g.a) := hb.at_.cell rfl
  have hc32 : W.cell? ⟨Bf, 32, none⟩ = some (.int .i64 f.r.club) := hb.at_.cell rfl
  have hc33 : W.cell? ⟨Bf, 33, none⟩ = some (.int .i64 f.r.player) := hb.at_.cell rfl
  have hc34 : W.cell? ⟨Bf, 34, none⟩ = some (.int .i64 f.r.s) := hb.at_.cell rfl
  have hc35 : W.cell? ⟨Bf, 35, none⟩ = some (.int .i64 f.r.c) := hb.at_.cell rfl
  have hc36 : W.cell? ⟨Bf, 36, none⟩ = some (.int .i64 f.r.points) := hb.at_.cell rfl
  have hc37 : W.cell? ⟨Bf, 37, none⟩ = some (.int .i64 f.r.amount) := hb.at_.cell rfl
  have hc38 : W.cell? ⟨Bf, 38, none⟩ = some (.int .i64 f.r.hg) := hb.at_.cell rfl
  have hc39 : W.cell? ⟨Bf, 39, none⟩ = some (.int .i64 f.r.ag) := hb.at_.cell rfl
  have hc40 : W.cell? ⟨Bf, 40, none⟩ = some (.int .i64 f.r.from_) := hb.at_.cell rfl
  have hc41 : W.cell? ⟨Bf, 41, none⟩ = some (.int .i64 f.r.to_) := hb.at_.cell rfl
  have HK := hide hk
  clear hJ hY hI hN hb hk HWV  h1 hg h2 h3
  refine callsIn_of_wp Tryz.func147 rfl trivial ?_ rfl
  simp only [Tryz.ntmps147, List.size_toArray, List.length_cons, List.length_nil, Nat.reduceAdd, Nat.reduceSub, Array.replicate_succ, Array.replicate_zero, List.push_toArray, List.append_toArray, List.nil_append, List.cons_append]
  gi_wp2_with fail
  refine ⟨trivial, (unhide HC).mono ?_⟩
  rintro e V ⟨rfl, ⟨ys, hys⟩, _⟩
  have HD : Hid (∀ v, EDone X B J f (.returned v) V) := fun v => ⟨⟨_, rfl⟩, ys, by
    have e : whatV f = whatK 4 f := by unfold whatV; rw [unhide HK]
    rw [e]
    exact hys⟩
  clear hys HC h0 hc25 hc26 hc27 hc28 hc29 hc30 hc31 hc32 hc33 hc34 hc35 hc36 hc37 hc38 hc39 hc40 hc41
  gi_wp2
  go_end0
  exact (unhide HD) _
set_option maxHeartbeats 4000000 in
theorem el5_in (f : Fc) (a : Ad) (hk : f.kind = 5) (hs : AllI [f.ac, f.ai]) (X L N B D : Nat) (J : List Raw → World → Prop) (hJ : AbidesFrom D J) (hY : YOn X L N J) (Bf : Nat) (W : World) (hI : Its X B J [] [] W) (hN : 40 ≤ N) (hb : Bx X W Bf 45 (fC f a))  :
    CallsIn Fence.wide 4 Tryz.prog 147 #[.func (.yield L) #[] #[], .pointer (some ⟨Bf, 0, none⟩)] W (EDone X B J f) := by
  have HC := hide (yApp_in 3 (by omega) X L N B D J hJ hY f.ac f.ai f.susp hs [] [] W hI (by simp; omega) )
  have HWV : Hid (∀ Vs, Vs = whatV f → True) := fun _ _ => trivial
  have h0 : W.cell? ⟨Bf, 0, none⟩ = some (.int .i64 5) := by rw [← hk]; exact hb.at_.cell rfl
  have hc42 : W.cell? ⟨Bf, 42, none⟩ = some (.int .i64 f.ac) := hb.at_.cell rfl
  have hc43 : W.cell? ⟨Bf, 43, none⟩ = some (.int .i64 f.ai) := hb.at_.cell rfl
  have hc44 : W.cell? ⟨Bf, 44, none⟩ = some (.bool f.susp) := hb.at_.cell rfl
  obtain ⟨vb, hvb⟩ : ∃ vb : Value, vb = .bool f.susp := ⟨_, rfl⟩
  rw [← hvb] at hc44
  have HVB := hide hvb
  clear hvb
  have HK := hide hk
  clear hJ hY hI hN hb hk HWV  hs
  refine callsIn_of_wp Tryz.func147 rfl trivial ?_ rfl
  simp only [Tryz.ntmps147, List.size_toArray, List.length_cons, List.length_nil, Nat.reduceAdd, Nat.reduceSub, Array.replicate_succ, Array.replicate_zero, List.push_toArray, List.append_toArray, List.nil_append, List.cons_append]
  gi_wp2_with fail
  rw [unhide HVB]
  refine ⟨trivial, (unhide HC).mono ?_⟩
  rintro e V ⟨rfl, ⟨ys, hys⟩, _⟩
  have HD : Hid (∀ v, EDone X B J f (.returned v) V) := fun v => ⟨⟨_, rfl⟩, ys, by
    have e : whatV f = whatK 5 f := by unfold whatV; rw [unhide HK]
    rw [e]
    exact hys⟩
  clear hys HC h0 hc42 hc43 hc44
  gi_wp2
  go_end0
  exact (unhide HD) _
set_option maxHeartbeats 4000000 in
theorem el7_in (f : Fc) (a : Ad) (hk : f.kind = 7) (hs : AllI [f.ls, f.lc]) (hl : AllI f.order) (X L N B D : Nat) (J : List Raw → World → Prop) (hJ : AbidesFrom D J) (hY : YOn X L N J) (Bf : Nat) (W : World) (hI : Its X B J [] [] W) (hN : 40 ≤ N) (hb : Bx X W Bf 45 (fC f a)) (hA : SlF X W a.od f.order a.nod) :
    CallsIn Fence.wide 4 Tryz.prog 147 #[.func (.yield L) #[] #[], .pointer (some ⟨Bf, 0, none⟩)] W (EDone X B J f) := by
  have HC := hide (yLot_in 3 (by omega) X L N B D J hJ hY f.ls f.lc f.order a.od a.nod hs hl [] [] W hI (by simp; omega) hA)
  have HWV : Hid (∀ Vs, Vs = whatV f → True) := fun _ _ => trivial
  have h0 : W.cell? ⟨Bf, 0, none⟩ = some (.int .i64 7) := by rw [← hk]; exact hb.at_.cell rfl
  have hc47 : W.cell? ⟨Bf, 47, none⟩ = some (.int .i64 f.ls) := hb.at_.cell rfl
  have hc48 : W.cell? ⟨Bf, 48, none⟩ = some (.int .i64 f.lc) := hb.at_.cell rfl
  have hc49 : W.cell? ⟨Bf, 49, none⟩ = some (.slice a.od f.order.length a.nod) := hb.at_.cell rfl
  have HK := hide hk
  clear hJ hY hI hN hb hk HWV hA hs hl
  refine callsIn_of_wp Tryz.func147 rfl trivial ?_ rfl
  simp only [Tryz.ntmps147, List.size_toArray, List.length_cons, List.length_nil, Nat.reduceAdd, Nat.reduceSub, Array.replicate_succ, Array.replicate_zero, List.push_toArray, List.append_toArray, List.nil_append, List.cons_append]
  gi_wp2_with fail
  refine ⟨trivial, (unhide HC).mono ?_⟩
  rintro e V ⟨rfl, ⟨ys, hys⟩, _⟩
  have HD : Hid (∀ v, EDone X B J f (.returned v) V) := fun v => ⟨⟨_, rfl⟩, ys, by
    have e : whatV f = whatK 7 f := by unfold whatV; rw [unhide HK]
    rw [e]
    exact hys⟩
  clear hys HC h0 hc47 hc48 hc49
  gi_wp2
  go_end0
  exact (unhide HD) _
set_option maxHeartbeats 4000000 in
theorem el6_in (f : Fc) (a : Ad) (hk : f.kind = 6) (hs : AllI [f.mp, f.mt]) (X L N B D : Nat) (J : List Raw → World → Prop) (hJ : AbidesFrom D J) (hY : YOn X L N J) (Bf : Nat) (W : World) (hI : Its X B J [] [] W) (hN : 40 ≤ N) (hb : Bx X W Bf 45 (fC f a))  :
    CallsIn Fence.wide 4 Tryz.prog 147 #[.func (.yield L) #[] #[], .pointer (some ⟨Bf, 0, none⟩)] W (EDone X B J f) := by
  have h0 : W.cell? ⟨Bf, 0, none⟩ = some (.int .i64 6) := by rw [← hk]; exact hb.at_.cell rfl
  have hc45 : W.cell? ⟨Bf, 45, none⟩ = some (.int .i64 f.mp) := hb.at_.cell rfl
  have hc46 : W.cell? ⟨Bf, 46, none⟩ = some (.int .i64 f.mt) := hb.at_.cell rfl
  have HK := hide hk; have HJ := hide hJ; have HY := hide hY; have HI := hide hI; have HN := hide hN; have HS := hide hs
  clear hJ hY hI hN hb hk hs
  refine callsIn_of_wp Tryz.func147 rfl trivial ?_ rfl
  simp only [Tryz.ntmps147, List.size_toArray, List.length_cons, List.length_nil, Nat.reduceAdd, Nat.reduceSub, Array.replicate_succ, Array.replicate_zero, List.push_toArray, List.append_toArray, List.nil_append, List.cons_append]
  gi_wp2_with fail
  generalize hXr : World.alloc W _ = W1
  have hbr : Below W.heap.size W W1 := hXr ▸ (Below.refl _ _).alloc (Nat.le_refl _) _
  have hrow : W1.heap[W.heap.size]? = some (.cells #[.int .i64 f.mp, .int .i64 f.mt] 3 (0, 0)) := by
    rw [← hXr]
    show (W.heap.push _)[W.heap.size]? = _
    rw [Array.getElem?_push_size]
  clear hXr h0 hc45 hc46
  have HI := hide ((unhide HI).below (unhide HJ) hbr)
  refine ⟨trivial, (yNums_in 3 (by omega) L W.heap.size 2 [f.mp, f.mt] (by simp) (by simp) N (KpV X) (kpV X) J (fun _ _ => False) D (unhide HJ) ((unhide HY).num _) _ (by have := unhide HN; simp; omega) W1 _ _ hrow (fun j hj => ?_) (unhide HI).j).mono ?_⟩
  · match j, hj with
    | 0, _ => rfl
    | 1, _ => rfl
  rintro e V (⟨rfl, hJ3, hk3⟩ | ⟨_, _, _, h⟩)
  case inr => exact h.elim
  have HD : Hid (∀ v, EDone X B J f (.returned v) V) := fun v => ⟨⟨_, rfl⟩, _, by
    have e : whatV f = whatK 6 f := by unfold whatV; rw [unhide HK]
    rw [e]
    exact (unhide HI).nums (unhide HS) hk3 hJ3⟩
  clear hJ3 hk3 hrow hbr
  gi_wp2
  go_end0
  exact (unhide HD) _
set_option maxHeartbeats 4000000 in
theorem el8_in (f : Fc) (a : Ad) (hk : f.kind = 8) (hv : f.void.length = 32) (X L N B D : Nat) (J : List Raw → World → Prop) (hJ : AbidesFrom D J) (hY : YOn X L N J) (Bf : Nat) (W : World) (hI : Its X B J [] [] W) (hN : 40 ≤ N) (hb : Bx X W Bf 45 (fC f a))  :
    CallsIn Fence.wide 4 Tryz.prog 147 #[.func (.yield L) #[] #[], .pointer (some ⟨Bf, 0, none⟩)] W (EDone X B J f) := by
  have h0 : W.cell? ⟨Bf, 0, none⟩ = some (.int .i64 8) := by rw [← hk]; exact hb.at_.cell rfl
  have hcv := fconv_bytes W Bf 50 32 32 f.void hv.symm (fun j hj => by
    have h := hb.at_.fv j (.int .u8 (f.void.getD j 0)) (by rw [vC, List.getElem?_map, List.getD_eq_getElem?_getD, List.getElem?_eq_getElem hj]; rfl)
    exact h)
  have HK := hide hk; have HJ := hide hJ; have HY := hide hY; have HI := hide hI; have HN := hide hN; have HV := hide hv
  clear hJ hY hI hN hb hk hv
  refine callsIn_of_wp Tryz.func147 rfl trivial ?_ rfl
  simp only [Tryz.ntmps147, List.size_toArray, List.length_cons, List.length_nil, Nat.reduceAdd, Nat.reduceSub, Array.replicate_succ, Array.replicate_zero, List.push_toArray, List.append_toArray, List.nil_append, List.cons_append]
  gi_wp2_with fail
  refine ⟨trivial, callsIn_wide.2 ((ftext_any (fstrOf f.void) W).mono ?_)⟩
  rintro e W1 ⟨rfl, hb4⟩
  obtain ⟨x, hxe⟩ : ∃ x : Raw, x = textR (fstrOf f.void) := ⟨_, rfl⟩
  have hx : VIn W1 (fun b => B ≤ b ∧ FreeB X W1 b) (textA (fstrOf f.void)) (.agg x.cs.toArray) := by rw [hxe]; exact vin_text (by rw [fstrOf_size, unhide HV]; omega)
  have hxc : textL (fstrOf f.void) = x.cs := by rw [hxe]; rfl
  rw [hxc]
  have HI := hide ((unhide HI).below (unhide HJ) hb4)
  obtain ⟨fn, tmps, assign, body, hy, hR⟩ := (unhide HY) 3 _ x W1 (unhide HI).j (by have := unhide HN; simp; omega)
  have HR := hide hR; have HE := hide hx
  clear hR hx hb4 h0 hcv hxe hxc
  gi_wp2
  refine (unhide HR).mono ?_
  rintro e V ⟨rfl, hJ5, hk5⟩
  have HD : Hid (∀ v, EDone X B J f (.returned v) V) := fun v => ⟨⟨_, rfl⟩, _, by
    have e : whatV f = whatK 8 f := by unfold whatV; rw [unhide HK]
    rw [e]
    exact (unhide HI).one (unhide HE) hk5 hJ5⟩
  clear hJ5 hk5 HR HE hy
  gi_wp2
  go_end0
  exact (unhide HD) _
end Go.Proofs.YtdmaopfaeigelaaGreatDoor
namespace Go.Proofs.YtdmaopfaeigelaaGreatDoor
set_option linter.unusedSimpArgs false
set_option linter.unusedVariables false
set_option maxRecDepth 100000
open Go.RowKit Go.Shelf

theorem i64_in {n a b : Int} (h : inR n a b = true) (ha : -9223372036854775808 ≤ a) (hb : b ≤ 9223372036854775807) : I64 n := by
  unfold inR at h
  rw [Bool.and_eq_true, decide_eq_true_eq, decide_eq_true_eq] at h
  exact ⟨by omega, by omega⟩
theorem i64_zero : I64 0 := ⟨by decide, by decide⟩
theorem okFact_open {f : Fc} (h : okFact f = true) : (1 ≤ f.kind ∧ f.kind ≤ 8) ∧ inR f.day 0 1048576 = true ∧ inR f.known 0 1048576 = true ∧ fHold f.kind f = true ∧ fcEq f (withHead f (fOwn f.kind f)) = true := by
  unfold okFact at h
  simp only [Bool.and_eq_true] at h
  obtain ⟨⟨⟨⟨h1, h2⟩, h3⟩, h4⟩, h5⟩ := h
  unfold inR at h1
  rw [Bool.and_eq_true, decide_eq_true_eq, decide_eq_true_eq] at h1
  exact ⟨h1, h2, h3, h4, h5⟩
theorem all2 {a b : Int} (ha : I64 a) (hb : I64 b) : AllI [a, b] := fun x hx => by
  simp at hx
  rcases hx with rfl | rfl <;> assumption
theorem game_i64 {g : Gm} (h : okGame g = true) : AllI (gameL g) := by
  unfold okGame at h
  simp only [Bool.and_eq_true] at h
  obtain ⟨⟨⟨⟨h1, h2⟩, h3⟩, h4⟩, _⟩ := h
  intro x hx
  simp [gameL] at hx
  rcases hx with rfl | rfl | rfl | rfl
  · exact i64_in h1 (by decide) (by decide)
  · exact i64_in h2 (by decide) (by decide)
  · exact i64_in h3 (by decide) (by decide)
  · exact i64_in h4 (by decide) (by decide)
theorem clubs_i64 {l : List Int} (h : okClubs l = true) : AllI l := by
  unfold okClubs at h
  rw [Bool.and_eq_true, List.all_eq_true] at h
  exact fun x hx => i64_in (h.2 x hx) (by decide) (by decide)
theorem squad_i64 {l : List Int} (h : okSquad l = true) : AllI l := by
  unfold okSquad at h
  rw [Bool.and_eq_true, Bool.and_eq_true, List.all_eq_true] at h
  exact fun x hx => i64_in (h.1.2 x hx) (by decide) (by decide)
theorem cards_i64 {l : List Cd} {k : List Int} (h : okCards l k = true) (hk : AllI k) : AllC l := by
  unfold okCards at h
  rw [Bool.and_eq_true, List.all_eq_true] at h
  exact fun x hx => hk _ (List.contains_iff_mem.1 (h.2 x hx))
/-- the numbers of a valid ruling -/
structure RuI (r : Ru) : Prop where
  h1 : AllI [r.cas, r.ins, r.kind]
  hg : AllI (gameL r.g)
  h2 : AllI [r.club, r.player, r.s, r.c, r.points, r.amount]
  h3 : AllI [r.hg, r.ag, r.from_, r.to_]
theorem ru_i64 {r : Ru} (h : okRuling r = true) : RuI r := by
  unfold okRuling at h
  simp only [Bool.and_eq_true] at h
  obtain ⟨⟨⟨⟨hk, hcas⟩, hins⟩, hh⟩, he⟩ := h
  have hk2 := hk
  unfold inR at hk2
  rw [Bool.and_eq_true, decide_eq_true_eq, decide_eq_true_eq] at hk2
  have hkd : r.kind = 1 ∨ r.kind = 2 ∨ r.kind = 3 ∨ r.kind = 4 ∨ r.kind = 5 ∨ r.kind = 6 ∨ r.kind = 7 ∨ r.kind = 8 := by omega
  unfold ruEq at he
  simp only [Bool.and_eq_true, decide_eq_true_eq] at he
  obtain ⟨⟨⟨⟨⟨⟨⟨⟨⟨⟨⟨⟨⟨⟨⟨⟨_, _⟩, _⟩, e1⟩, e2⟩, e3⟩, e4⟩, e5⟩, e6⟩, e7⟩, e8⟩, e9⟩, e10⟩, e11⟩, e12⟩, e13⟩, e14⟩ := he
  have hfirst : AllI [r.cas, r.ins, r.kind] := fun x hx => by
    simp at hx
    rcases hx with rfl | rfl | rfl
    · exact i64_in hcas (by decide) (by decide)
    · exact i64_in hins (by decide) (by decide)
    · exact i64_in hk (by decide) (by decide)
  have fin : AllI (gameL r.g) → I64 r.club → I64 r.player → I64 r.s → I64 r.c → I64 r.points → I64 r.amount → I64 r.hg → I64 r.ag → I64 r.from_ → I64 r.to_ → RuI r := by
    intro a1 a2 a3 a4 a5 a6 a7 a8 a9 a10 a11
    refine ⟨hfirst, a1, fun x hx => ?_, fun x hx => ?_⟩
    · simp at hx
      rcases hx with rfl | rfl | rfl | rfl | rfl | rfl <;> assumption
    · simp at hx
      rcases hx with rfl | rfl | rfl | rfl <;> assumption
  have z : ∀ {n : Int}, n = 0 → I64 n := fun e => by rw [e]; exact i64_zero
  have zg : r.g.s = 0 → r.g.c = 0 → r.g.h = 0 → r.g.a = 0 → AllI (gameL r.g) := fun a b c d x hx => by
    simp [gameL] at hx
    rcases hx with rfl | rfl | rfl | rfl <;> exact z (by assumption)
  have iv : okInt r.from_ r.to_ = true → I64 r.from_ ∧ I64 r.to_ := fun h => by
    unfold okInt at h
    simp only [Bool.and_eq_true] at h
    exact ⟨i64_in h.1.1 (by decide) (by decide), i64_in h.1.2 (by decide) (by decide)⟩
  rcases hkd with hk | hk | hk | hk | hk | hk | hk | hk <;> rw [hk] at hh e1 e2 e3 e4 e5 e6 e7 e8 e9 e10 e11 e12 e13 e14 <;> simp only [rOwn, g0] at e1 e2 e3 e4 e5 e6 e7 e8 e9 e10 e11 e12 e13 e14
  · have hh : (okGame r.g && (decide (r.club = r.g.h) || decide (r.club = r.g.a))) = true := hh
    rw [Bool.and_eq_true] at hh
    have hg := game_i64 hh.1
    refine fin hg ?_ (z e6) (z e7) (z e8) (z e9) (z e10) (z e11) (z e12) (z e13) (z e14)
    rw [Bool.or_eq_true, decide_eq_true_eq, decide_eq_true_eq] at hh
    rcases hh.2 with e | e
    · rw [e]; exact hg _ (by simp [gameL])
    · rw [e]; exact hg _ (by simp [gameL])
  · exact fin (game_i64 hh) (z e5) (z e6) (z e7) (z e8) (z e9) (z e10) (z e11) (z e12) (z e13) (z e14)
  · have hh : (okGame r.g && (inR r.hg 0 99 && inR r.ag 0 99)) = true := hh
    simp only [Bool.and_eq_true] at hh
    exact fin (game_i64 hh.1) (z e5) (z e6) (z e7) (z e8) (z e9) (z e10) (i64_in hh.2.1 (by decide) (by decide)) (i64_in hh.2.2 (by decide) (by decide)) (z e13) (z e14)
  · have hh : (inR r.club 0 191 && inR r.s 0 63 && inR r.c 0 15 && inR r.points 1 99) = true := hh
    simp only [Bool.and_eq_true] at hh
    exact fin (zg e1 e2 e3 e4) (i64_in hh.1.1.1 (by decide) (by decide)) (z e6) (i64_in hh.1.1.2 (by decide) (by decide)) (i64_in hh.1.2 (by decide) (by decide)) (i64_in hh.2 (by decide) (by decide)) (z e10) (z e11) (z e12) (z e13) (z e14)
  · have hh : (inR r.club 0 191 && okInt r.from_ r.to_) = true := hh
    simp only [Bool.and_eq_true] at hh
    exact fin (zg e1 e2 e3 e4) (i64_in hh.1 (by decide) (by decide)) (z e6) (z e7) (z e8) (z e9) (z e10) (z e11) (z e12) (iv hh.2).1 (iv hh.2).2
  · have hh : (inR r.player 0 8191 && okInt r.from_ r.to_) = true := hh
    simp only [Bool.and_eq_true] at hh
    exact fin (zg e1 e2 e3 e4) (z e5) (i64_in hh.1 (by decide) (by decide)) (z e7) (z e8) (z e9) (z e10) (z e11) (z e12) (iv hh.2).1 (iv hh.2).2
  · have hh : (inR r.club 0 191 && inR r.amount 1 1125899906842624) = true := hh
    simp only [Bool.and_eq_true] at hh
    exact fin (zg e1 e2 e3 e4) (i64_in hh.1 (by decide) (by decide)) (z e6) (z e7) (z e8) (z e9) (i64_in hh.2 (by decide) (by decide)) (z e11) (z e12) (z e13) (z e14)
  · exact fin (zg e1 e2 e3 e4) (z e5) (z e6) (z e7) (z e8) (z e9) (z e10) (z e11) (z e12) (z e13) (z e14)
/-- the numbers of a valid sheet -/
structure ShI (s : Sh) : Prop where
  hg : AllI (gameL s.g)
  hn : AllI [s.rf, s.hg, s.ag, s.hp, s.ap]
  h1 : AllI s.hs
  h2 : AllI s.as_
  h3 : AllC s.hc
  h4 : AllC s.ac
theorem sh_i64 {s : Sh} (h : okSheet s = true) : ShI s := by
  unfold okSheet at h
  simp only [Bool.and_eq_true] at h
  obtain ⟨⟨⟨⟨⟨⟨⟨⟨hg, hr⟩, hgo⟩, hp⟩, h1⟩, h2⟩, _⟩, h3⟩, h4⟩ := h
  have hps : I64 s.hp ∧ I64 s.ap := by
    unfold okPens at hp
    simp only [Bool.or_eq_true, Bool.and_eq_true, decide_eq_true_eq] at hp
    rcases hp with ⟨a, b⟩ | ⟨⟨_, a, b⟩, _⟩
    · rw [a, b]; exact ⟨i64_zero, i64_zero⟩
    · exact ⟨i64_in a (by decide) (by decide), i64_in b (by decide) (by decide)⟩
  refine ⟨game_i64 hg, fun x hx => ?_, squad_i64 h1, squad_i64 h2, cards_i64 h3 (squad_i64 h1), cards_i64 h4 (squad_i64 h2)⟩
  simp at hx
  rcases hx with rfl | rfl | rfl | rfl | rfl
  · exact i64_in hr (by decide) (by decide)
  · exact i64_in hgo.1 (by decide) (by decide)
  · exact i64_in hgo.2 (by decide) (by decide)
  · exact hps.1
  · exact hps.2
theorem elemsO_any (f : Fc) (a : Ad) (w : World) (hf : FAt w f a) (hok : okFact f = true) (hlim : f.e.rules.size ≤ 1000000) : ElemsO f a (whatV f) 40 w := by
  intro W Bf X hb hX hBf hF hL0 L J W' hW hJ hY h0
  have hww : Below w.heap.size w W' := thenB hb hW
  have hL1 := hL0.keep hW
  have hF1 := hF.keep hW
  have hI : Its X W.heap.size J [] [] W' := ⟨h0, ⟨_, hL1, fun q e => by cases e⟩, ElsV.nil, hW.size⟩
  have hY' : YOn X L 40 J := fun m pre x V hj hl => round_depth (hY pre x V hj trivial hl)
  have hbx : Bx X W' Bf 45 (fC f a) := by
    refine ⟨hF1, fun e => ?_, ⟨_, hF1, rfl⟩, fun v hv => ?_⟩
    · subst e
      have := vs_same hF1 hL1
      have h2 : (fC f a).length = (listL (.slice none 0 0)).length := by rw [this]
      rw [fC_length _ _ hf.void] at h2
      cases h2
    · have := listL_inj (vs_same hv hL1)
      subst this
      exact fun e => by cases e
  have done : ∀ {e : Ending} {V : World}, EDone X W.heap.size J f e V → (∃ v, e = .returned v) ∧ ∃ ys, (Lst X V ∧ ElsV X W.heap.size (whatV f) ys V) ∧ J ys V := fun h => ⟨h.1, by
    obtain ⟨ys, h⟩ := h.2
    exact ⟨ys, ⟨h.lst, h.els⟩, h.j⟩⟩
  obtain ⟨hk, hd, hn, hh, _⟩ := okFact_open hok
  have hkd : f.kind = 1 ∨ f.kind = 2 ∨ f.kind = 3 ∨ f.kind = 4 ∨ f.kind = 5 ∨ f.kind = 6 ∨ f.kind = 7 ∨ f.kind = 8 := by omega
  rcases hkd with hk | hk | hk | hk | hk | hk | hk | hk <;> rw [hk] at hh
  · have hh : okEnt f.e = true := hh
    unfold okEnt at hh
    simp only [Bool.and_eq_true] at hh
    obtain ⟨⟨⟨⟨h1, h2⟩, h3⟩, _⟩, _⟩ := hh
    exact (el1_in f a hk (all2 (i64_in h1 (by decide) (by decide)) (i64_in h2 (by decide) (by decide))) (clubs_i64 h3) (by omega) X L 40 W.heap.size _ J hJ hY' Bf W' hI (Nat.le_refl _) hbx (SlF.of hf.cl hww hX hL1)).mono fun e V h => done h
  · have hh : (okGame f.xg && inR f.venue 0 4095) = true := hh
    rw [Bool.and_eq_true] at hh
    exact (el2_in f a hk (game_i64 hh.1) (i64_in hh.2 (by decide) (by decide)) X L 40 W.heap.size _ J hJ hY' Bf W' hI (Nat.le_refl _) hbx).mono fun e V h => done h
  · have hs := sh_i64 (show okSheet f.sh = true from hh)
    exact (el3_in f a hk hs.hg hs.hn hs.h1 hs.h2 hs.h3 hs.h4 X L 40 W.heap.size _ J hJ hY' Bf W' hI (Nat.le_refl _) hbx (SlF.of hf.hs hww hX hL1) (SlF.of hf.as_ hww hX hL1) (ScF.of hf.hc hww hX hL1) (ScF.of hf.ac hww hX hL1)).mono fun e V h => done h
  · have hr := ru_i64 (show okRuling f.r = true from hh)
    exact (el4_in f a hk hr.h1 hr.hg hr.h2 hr.h3 X L 40 W.heap.size _ J hJ hY' Bf W' hI (Nat.le_refl _) hbx).mono fun e V h => done h
  · have hh : (inR f.ac 1 1048576 && inR f.ai 1 2) = true := hh
    rw [Bool.and_eq_true] at hh
    exact (el5_in f a hk (all2 (i64_in hh.1 (by decide) (by decide)) (i64_in hh.2 (by decide) (by decide))) X L 40 W.heap.size _ J hJ hY' Bf W' hI (Nat.le_refl _) hbx).mono fun e V h => done h
  · have hh : okMove f.mp f.mt = true := hh
    unfold okMove at hh
    rw [Bool.and_eq_true, Bool.or_eq_true, decide_eq_true_eq] at hh
    have ht : I64 f.mt := by
      rcases hh.2 with h | h
      · exact i64_in h (by decide) (by decide)
      · rw [h]; exact ⟨by decide, by decide⟩
    exact (el6_in f a hk (all2 (i64_in hh.1 (by decide) (by decide)) ht) X L 40 W.heap.size _ J hJ hY' Bf W' hI (Nat.le_refl _) hbx).mono fun e V h => done h
  · have hh : okLot f.ls f.lc f.order = true := hh
    unfold okLot at hh
    simp only [Bool.and_eq_true] at hh
    exact (el7_in f a hk (all2 (i64_in hh.1.1.1 (by decide) (by decide)) (i64_in hh.1.1.2 (by decide) (by decide))) (clubs_i64 hh.1.2) X L 40 W.heap.size _ J hJ hY' Bf W' hI (Nat.le_refl _) hbx (SlF.of hf.od hww hX hL1)).mono fun e V h => done h
  · exact (el8_in f a hk hf.void X L 40 W.heap.size _ J hJ hY' Bf W' hI (Nat.le_refl _) hbx).mono fun e V h => done h
def whatA (f : Fc) : Va := .mk 3 0 ByteArray.empty (whatV f) []
theorem whatV_len (f : Fc) : (whatV f).length ≤ 14 := by
  unfold whatV whatK
  split <;> simp
theorem fvalue_any (f : Fc) (a : Ad) (w : World) (hf : FAt w f a) (hok : okFact f = true) (hlim : f.e.rules.size ≤ 1000000) :
    Calls Tryz.prog 40 #[.agg (fC f a).toArray] w fun e w' => ∃ v, e = .returned v ∧ VAt w' (factA f (whatA f)) v ∧ Below w.heap.size w w' := by
  obtain ⟨hk, hd, hn, _, _⟩ := okFact_open hok
  refine (valueO_any f a hf.void (whatV f) 40 (by omega) w (elemsO_any f a w hf hok hlim)).mono ?_
  rintro e w' ⟨v, gL, gK, ys, rfl, hL, hK, hr, hb, hl, hv⟩
  exact ⟨_, rfl, vat_fact (i64_in hd (by decide) (by decide)) ⟨by omega, by omega⟩ (i64_in hn (by decide) (by decide)) hL hK (vat_list hr hl.symm hv (by have := whatV_len f; omega)), hb⟩
end Go.Proofs.YtdmaopfaeigelaaGreatDoor
namespace Go.Proofs.YtdmaopfaeigelaaGreatDoor
set_option linter.unusedSimpArgs false
set_option linter.unusedVariables false
set_option maxRecDepth 100000
open Go.RowKit Go.Shelf

/-- well formed, shallow, short -/
structure Vok (d L : Nat) (V : Va) : Prop where
  wf : V.wf = true
  dep : V.dep ≤ d
  nest : V.nest ≤ d + 1
  len : V.enc.length ≤ L
theorem Vok.mono {d L d' L' : Nat} {V : Va} (h : Vok d L V) (hd : d ≤ d') (hl : L ≤ L') : Vok d' L' V := ⟨h.wf, Nat.le_trans h.dep hd, by have := h.nest; omega, Nat.le_trans h.len hl⟩
theorem vok_num {n : Int} (h : I64 n) : Vok 0 23 (numA n) := by
  refine ⟨by kernel_rfl, Nat.le_refl _, Nat.le_refl _, ?_⟩
  have := Lib.itoa_length_le n h.1 h.2
  show (105 :: Lib.itoa n ++ [101]).length ≤ 23
  simp
  omega
theorem encT_len (s : ByteArray) (h : s.size ≤ 1000000) : (encT s).length ≤ s.size + 22 := by
  have := Lib.itoa_length_le (s.size : Int) (by omega) (by omega)
  unfold encT
  have e : s.data.toList.length = s.size := by simp
  simp
  omega
theorem vok_text {s : ByteArray} (h : s.size ≤ 1000000) : Vok 0 1000022 (textA s) := by
  refine ⟨by kernel_rfl, Nat.le_refl _, Nat.le_refl _, ?_⟩
  have := encT_len s h
  show (encT s).length ≤ 1000022
  omega
theorem wfAll_of : ∀ {l : List Va}, (∀ x ∈ l, x.wf = true) → wfAll l = true
  | [], _ => rfl
  | x :: r, h => by
    simp only [wfAll, h x (List.mem_cons_self ..), Bool.true_and]
    exact wfAll_of fun y hy => h y (List.mem_cons_of_mem _ hy)
theorem depAll_of {d : Nat} : ∀ {l : List Va}, (∀ x ∈ l, x.dep ≤ d) → depAll l ≤ d
  | [], _ => Nat.zero_le _
  | x :: r, h => by
    simp only [depAll]
    have := h x (List.mem_cons_self ..)
    have := depAll_of (d := d) (l := r) fun y hy => h y (List.mem_cons_of_mem _ hy)
    omega
theorem nestAll_of {d : Nat} : ∀ {l : List Va}, (∀ x ∈ l, x.nest ≤ d) → nestAll l ≤ d
  | [], _ => Nat.zero_le _
  | x :: r, h => by
    simp only [nestAll]
    have := h x (List.mem_cons_self ..)
    have := nestAll_of (d := d) (l := r) fun y hy => h y (List.mem_cons_of_mem _ hy)
    omega
theorem encL_of {L : Nat} : ∀ {l : List Va}, (∀ x ∈ l, x.enc.length ≤ L) → (encL l).length ≤ L * l.length
  | [], _ => Nat.zero_le _
  | x :: r, h => by
    simp only [encL, List.length_append, List.length_cons]
    have := h x (List.mem_cons_self ..)
    have := encL_of (L := L) (l := r) fun y hy => h y (List.mem_cons_of_mem _ hy)
    rw [Nat.mul_add, Nat.mul_one]
    omega
theorem vok_list {d L : Nat} {l : List Va} (h : ∀ x ∈ l, Vok d L x) : Vok (d + 1) (L * l.length + 2) (.mk 3 0 ByteArray.empty l []) := by
  have hw := wfAll_of fun x hx => (h x hx).wf
  have hd := depAll_of fun x hx => (h x hx).dep
  have hn := nestAll_of fun x hx => (h x hx).nest
  have he := encL_of fun x hx => (h x hx).len
  refine ⟨?_, ?_, ?_, ?_⟩
  · simp only [Va.wf, hw, Bool.and_true]
    kernel_rfl
  · show (if (3 : Int) = 1 ∨ (3 : Int) = 2 then 0 else depAll l + 1) ≤ d + 1
    rw [if_neg (by decide)]
    omega
  · show nestAll l + 1 ≤ d + 1 + 1
    omega
  · show (108 :: encL l ++ [101]).length ≤ _
    simp
    omega
theorem vok_nums {l : List Int} (h : AllI l) (hl : l.length ≤ 1000) : Vok 1 24000 (numsA l) := by
  refine (vok_list (d := 0) (L := 23) (l := l.map numA) fun x hx => ?_).mono (Nat.le_refl _) (by rw [List.length_map]; omega)
  obtain ⟨n, hn, rfl⟩ := List.mem_map.1 hx
  exact vok_num (h n hn)
theorem vok_card {c : Cd} (h : I64 c.p) : Vok 1 50 (cardA c) := by
  refine (vok_list (d := 0) (L := 23) (l := [numA c.p, numA (redI c.red)]) fun x hx => ?_).mono (Nat.le_refl _) (by simp)
  simp at hx
  rcases hx with rfl | rfl
  · exact vok_num h
  · exact vok_num (by unfold redI; exact i64_truth c.red)
theorem vok_cards {l : List Cd} (h : AllC l) (hl : l.length ≤ 1000) : Vok 2 51000 (cardsA l) := by
  refine (vok_list (d := 1) (L := 50) (l := l.map cardA) fun x hx => ?_).mono (Nat.le_refl _) (by rw [List.length_map]; omega)
  obtain ⟨c, hc, rfl⟩ := List.mem_map.1 hx
  exact vok_card (h c hc)
theorem vok_all {d L : Nat} {ns : List Int} (h : AllI ns) : ∀ x ∈ ns.map numA, Vok 2 1000022 x := fun x hx => by
  obtain ⟨n, hn, rfl⟩ := List.mem_map.1 hx
  exact (vok_num (h n hn)).mono (by omega) (by omega)
theorem what_vok (f : Fc) (a : Ad) (w : World) (hf : FAt w f a) (hok : okFact f = true) (hlim : f.e.rules.size ≤ 1000000) : ∀ x ∈ whatV f, Vok 2 1000022 x := by
  obtain ⟨hk, hd, hn, hh, _⟩ := okFact_open hok
  have N : ∀ {n : Int}, I64 n → Vok 2 1000022 (numA n) := fun h => (vok_num h).mono (by omega) (by omega)
  have T : ∀ {s : ByteArray}, s.size ≤ 1000000 → Vok 2 1000022 (textA s) := fun h => (vok_text h).mono (by omega) (by omega)
  have Q : ∀ {l : List Int}, AllI l → l.length ≤ 1000 → Vok 2 1000022 (numsA l) := fun h hl => (vok_nums h hl).mono (by omega) (by omega)
  have C : ∀ {l : List Cd}, AllC l → l.length ≤ 1000 → Vok 2 1000022 (cardsA l) := fun h hl => (vok_cards h hl).mono (by omega) (by omega)
  have G : ∀ {g : Gm}, AllI (gameL g) → Vok 2 1000022 (numsA (gameL g)) := fun h => Q h (by simp [gameL])
  have hkd : f.kind = 1 ∨ f.kind = 2 ∨ f.kind = 3 ∨ f.kind = 4 ∨ f.kind = 5 ∨ f.kind = 6 ∨ f.kind = 7 ∨ f.kind = 8 := by omega
  have U : ∀ k, f.kind = k → whatV f = whatK k f := fun k h => by unfold whatV; rw [h]
  rcases hkd with hk | hk | hk | hk | hk | hk | hk | hk <;> rw [U _ hk] <;> rw [hk] at hh
  · have hh : okEnt f.e = true := hh
    unfold okEnt at hh
    simp only [Bool.and_eq_true] at hh
    obtain ⟨⟨⟨⟨h1, h2⟩, h3⟩, _⟩, _⟩ := hh
    intro x hx
    simp [whatK] at hx
    rcases hx with rfl | rfl | rfl | rfl
    · exact N (i64_in h1 (by decide) (by decide))
    · exact N (i64_in h2 (by decide) (by decide))
    · exact Q (clubs_i64 h3) hf.cl.few
    · exact T hlim
  · have hh : (okGame f.xg && inR f.venue 0 4095) = true := hh
    rw [Bool.and_eq_true] at hh
    intro x hx
    simp [whatK] at hx
    rcases hx with rfl | rfl
    · exact G (game_i64 hh.1)
    · exact N (i64_in hh.2 (by decide) (by decide))
  · have hs := sh_i64 (show okSheet f.sh = true from hh)
    have hm := hs.hn
    intro x hx
    simp [whatK] at hx
    rcases hx with rfl | rfl | rfl | rfl | rfl | rfl | rfl | rfl | rfl | rfl
    · exact G hs.hg
    · exact N (hm _ (by simp))
    · exact N (hm _ (by simp))
    · exact N (hm _ (by simp))
    · exact N (hm _ (by simp))
    · exact N (hm _ (by simp))
    · exact Q hs.h1 hf.hs.few
    · exact Q hs.h2 hf.as_.few
    · exact C hs.h3 hf.hc.few
    · exact C hs.h4 hf.ac.few
  · have hr := ru_i64 (show okRuling f.r = true from hh)
    have h1 := hr.h1
    have h2 := hr.h2
    have h3 := hr.h3
    intro x hx
    simp [whatK] at hx
    rcases hx with rfl | rfl | rfl | rfl | rfl | rfl | rfl | rfl | rfl | rfl | rfl | rfl | rfl | rfl
    · exact N (h1 _ (by simp))
    · exact N (h1 _ (by simp))
    · exact N (h1 _ (by simp))
    · exact G hr.hg
    · exact N (h2 _ (by simp))
    · exact N (h2 _ (by simp))
    · exact N (h2 _ (by simp))
    · exact N (h2 _ (by simp))
    · exact N (h2 _ (by simp))
    · exact N (h2 _ (by simp))
    · exact N (h3 _ (by simp))
    · exact N (h3 _ (by simp))
    · exact N (h3 _ (by simp))
    · exact N (h3 _ (by simp))
  · have hh : (inR f.ac 1 1048576 && inR f.ai 1 2) = true := hh
    rw [Bool.and_eq_true] at hh
    intro x hx
    simp only [whatK, List.mem_cons, List.not_mem_nil, or_false] at hx
    rcases hx with rfl | rfl | rfl
    · exact N (i64_in hh.1 (by decide) (by decide))
    · exact N (i64_in hh.2 (by decide) (by decide))
    · exact N (i64_truth f.susp)
  · have hh : okMove f.mp f.mt = true := hh
    unfold okMove at hh
    rw [Bool.and_eq_true, Bool.or_eq_true, decide_eq_true_eq] at hh
    intro x hx
    simp [whatK] at hx
    rcases hx with rfl | rfl
    · exact N (i64_in hh.1 (by decide) (by decide))
    · refine N ?_
      rcases hh.2 with h | h
      · exact i64_in h (by decide) (by decide)
      · rw [h]; exact ⟨by decide, by decide⟩
  · have hh : okLot f.ls f.lc f.order = true := hh
    unfold okLot at hh
    simp only [Bool.and_eq_true] at hh
    intro x hx
    simp [whatK] at hx
    rcases hx with rfl | rfl | rfl
    · exact N (i64_in hh.1.1.1 (by decide) (by decide))
    · exact N (i64_in hh.1.1.2 (by decide) (by decide))
    · exact Q (clubs_i64 hh.1.2) hf.od.few
  · intro x hx
    simp [whatK] at hx
    subst hx
    exact T (by rw [fstrOf_size, hf.void]; omega)
theorem fact_vok (f : Fc) (a : Ad) (w : World) (hf : FAt w f a) (hok : okFact f = true) (hlim : f.e.rules.size ≤ 1000000) : Vok 5 100000000 (factA f (whatA f)) := by
  obtain ⟨hk, hd, hn, hh, _⟩ := okFact_open hok
  have hW := (vok_list (what_vok f a w hf hok hlim)).mono (Nat.le_refl _) (show 1000022 * (whatV f).length + 2 ≤ 20000000 by have := whatV_len f; omega)
  have h1 := vok_num (i64_in hd (by decide) (by decide))
  have h2 := vok_num (show I64 f.kind from ⟨by omega, by omega⟩)
  have h3 := vok_num (i64_in hn (by decide) (by decide))
  have hwd : (whatA f).wf = true := hW.wf
  have hdp : (whatA f).dep ≤ 3 := hW.dep
  have hns : (whatA f).nest ≤ 4 := hW.nest
  have hln : (whatA f).enc.length ≤ 20000000 := hW.len
  refine ⟨?_, ?_, ?_, ?_⟩
  · unfold factA
    simp only [Va.wf, wfAll, h1.wf, h2.wf, h3.wf, hwd, Bool.and_true]
    kernel_rfl
  · unfold factA
    show (if (4 : Int) = 1 ∨ (4 : Int) = 2 then 0 else depAll [numA f.day, numA f.kind, numA f.known, whatA f] + 1) ≤ 5
    rw [if_neg (by decide)]
    simp only [depAll]
    have := h1.dep
    have := h2.dep
    have := h3.dep
    omega
  · unfold factA
    show nestAll [numA f.day, numA f.kind, numA f.known, whatA f] + 1 ≤ 6
    simp only [nestAll]
    have := h1.nest
    have := h2.nest
    have := h3.nest
    omega
  · unfold factA
    show (100 :: encD [numA f.day, numA f.kind, numA f.known, whatA f] [dayS, kindS, knownS, whatS] ++ [101]).length ≤ 100000000
    simp only [encD, List.length_append, List.length_cons, List.length_nil]
    have k1 := encT_len dayS (by decide)
    have k2 := encT_len kindS (by decide)
    have k3 := encT_len knownS (by decide)
    have k4 := encT_len whatS (by decide)
    have e1 : dayS.size = 3 := rfl
    have e2 : kindS.size = 4 := rfl
    have e3 : knownS.size = 5 := rfl
    have e4 : whatS.size = 4 := rfl
    have := h1.len
    have := h2.len
    have := h3.len
    omega
/-- the encoding of a fact -/
def fencF (f : Fc) : List UInt8 := if okFact f then (factA f (whatA f)).enc else []
theorem encode_all (f : Fc) (a : Ad) (w : World) (hf : FAt w f a) (hw : FWf f) (hlim : f.e.rules.size ≤ 1000000) (hE : Env w) (hg : gTop ≤ w.heap.size) :
    Calls Tryz.prog 17 #[.agg (fC f a).toArray] w (FEnc w (fencF f) (if okFact f then 0 else 70)) := by
  by_cases hok : okFact f = true
  · have hv := fact_vok f a w hf hok hlim
    unfold fencF
    rw [if_pos hok, if_pos hok]
    refine encode_ok f a w hf hw hok _ ?_ (fun W hW => fvalue_any f a W (hf.keep hW) hok hlim) (by have := hv.nest; omega) (by have := hv.len; omega) hE hg
    unfold chkE
    rw [if_pos hv.wf, if_pos (by have := hv.dep; omega)]
  · have e : okFact f = false := by simpa using hok
    unfold fencF
    rw [if_neg hok, if_neg hok]
    exact encode_bad f a w hf hw e
end Go.Proofs.YtdmaopfaeigelaaGreatDoor
