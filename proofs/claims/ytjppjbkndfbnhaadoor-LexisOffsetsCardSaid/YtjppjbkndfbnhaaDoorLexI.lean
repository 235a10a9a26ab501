/- Contracts over the program of lexis: Tokens. -/
import Derived.Test.YtjppjbkndfbnhaaDoorLexOrd
import Derived.Test.YtjppjbkndfbnhaaDoorLexStep
import Derived.WalkMore
namespace Go.Proofs.YtjppjbkndfbnhaaDoor
set_option linter.unusedSimpArgs false
set_option linter.unusedVariables false
open Go.RowKit

/-- the bytes behind an address are those of a text -/
def Src (w : World) (A : Option Addr) (s : ByteArray) : Prop := (A = none ∧ s.size = 0) ∨ ∃ b o, A = some ⟨b, o, none⟩ ∧ b < w.heap.size ∧ Lib.Bytes w b o s
theorem Src.keep {w w' : World} {A : Option Addr} {s : ByteArray} (h : Src w A s) (hb : Below w.heap.size w w') : Src w' A s := by
  rcases h with h | ⟨b, o, rfl, hlt, hc⟩
  · exact .inl h
  · refine .inr ⟨b, o, rfl, Nat.lt_of_lt_of_le hlt hb.size, fun i hi => ?_⟩
    rw [cell_block (hb.block b hlt)]
    exact hc i hi
theorem size0 {s : ByteArray} (h : s.size = 0) : s = ByteArray.empty := by
  have : L s = L ByteArray.empty := by
    rw [List.eq_nil_iff_length_eq_zero.2 (show (L s).length = 0 by rw [L_len]; exact h)]; rfl
  exact L_eq this
theorem Src.conv {w : World} {A : Option Addr} {s : ByteArray} (h : Src w A s) (n c : Nat) (hn : s.size = n) : (convert 22 9 (.slice A n c)).run Tryd.prog w = .ok (.string s) w := by
  subst hn
  rcases h with ⟨rfl, h0⟩ | ⟨b, o, rfl, hlt, hc⟩
  · rw [run_convert_bytes_nil w 22 5 Tryd.underlying22 Tryd.underlying5 s.size c 9 Tryd.underlying9, ← size0 h0]
  · exact Lib.run_convert_whole (P := Tryd.prog) w 22 5 9 Tryd.underlying22 Tryd.underlying5 Tryd.underlying9 b o s hc c

theorem ownMono {w : World} {base base' : Nat} {e : TypeId} {size : Nat} {v : Value} {n : Nat} {xs : List Value} (h : w.ownsRow base e size v n xs) (hb : base' ≤ base) : w.ownsRow base' e size v n xs := by
  refine ⟨h.1, ?_⟩
  rcases h.2 with h | ⟨g, cap, cur, hv, hg, rest⟩
  · exact .inl h
  · exact .inr ⟨g, cap, cur, hv, Nat.le_trans hb hg, rest⟩
/-- how Tokens ends -/
def TokIs (s : ByteArray) (w : World) (e : Ending) (w' : World) : Prop :=
  ∃ v u, e = .returned (.tuple #[v, u, .int .i64 0]) ∧ OwnT w' w.heap.size v (Lx.toks (L s)).1 ∧ OwnP w' w.heap.size u (Lx.toks (L s)).2 ∧ Below w.heap.size w w'
theorem tokens_no (A : Option Addr) (n c : Nat) (w : World) (h : 65536 < n) :
    Calls Tryd.prog 12 #[.slice A n c] w fun e w' => e = .returned (.tuple #[.slice none 0 0, .slice none 0 0, .int .i64 2]) ∧ Below w.heap.size w w' := by
  go_enter Tryd.func12, Tryd.ntmps12
  go_wp2_with fail
  go_step3
  go_wp2_with fail
  rw [Exit.noGoto_ret]
  exact bodyPost_ret (v := .tuple #[.slice none 0 0, .slice none 0 0, .int .i64 2]) (by simp [results, Tryd.results12, go_sem]) rfl ⟨rfl, (Below.refl _ _).alloc (Nat.le_refl _) _⟩

/-- what Tokens' loop keeps, but for the scanner -/
structure TokFr (w : World) (e : Int) (l : List Lx.Tk) (p : List Int) (v u : Value) (wr : World) : Prop where
  run : wr.cell? ⟨w.heap.size + 1, 0, none⟩ = some (.int .i64 e)
  runF : wr.frozen? ⟨w.heap.size + 1, 0, none⟩ = false
  bad : wr.cell? ⟨w.heap.size, 0, none⟩ = some u
  badF : wr.frozen? ⟨w.heap.size, 0, none⟩ = false
  rowT : OwnT wr (w.heap.size + 3) v l
  rowP : OwnP wr (w.heap.size + 3) u p
  apart : ∀ g, v.ownBlock = some g → u.ownBlock ≠ some g
  below : Below w.heap.size w wr
theorem TokFr.but {w : World} {e : Int} {l : List Lx.Tk} {p : List Int} {v u : Value} {wr w1 : World} (h : TokFr w e l p v u wr) (hb : But (w.heap.size + 2) wr w1) (hlt : w.heap.size + 2 < wr.heap.size) : TokFr w e l p v u w1 := by
  have k1 := hb.blk (w.heap.size + 1) (by omega) (by omega)
  have k0 := hb.blk w.heap.size (by omega) (by omega)
  refine ⟨(World.cell?_of_block k1).trans h.run, (World.frozen?_of_block k1).trans h.runF, (World.cell?_of_block k0).trans h.bad, (World.frozen?_of_block k0).trans h.badF, ownLater h.rowT fun g hg => ?_, ownLater h.rowP fun g hg => ?_, h.apart, But.below h.below hb (by omega)⟩
  · have := World.ownsRow.lt h.rowT g hg; exact hb.blk g this.2 (by omega)
  · have := World.ownsRow.lt h.rowP g hg; exact hb.blk g this.2 (by omega)
theorem TokFr.tok {w : World} {e : Int} {l : List Lx.Tk} {p : List Int} {v u v' : Value} {w1 w2 : World} {o : Obj} {t : Lx.Tk} (h : TokFr w e l p v u w1) (hlt : w.heap.size + 2 < w1.heap.size)
    (hg : (w1.alloc o).grownBy w2 v.ownBlock) (hO : OwnT w2 (w.heap.size + 3) v' (l ++ [t])) (hbl : v'.ownBlock = v.ownBlock ∨ v'.ownBlock = some (w1.alloc o).heap.size) : TokFr w e (l ++ [t]) p v' u w2 := by
  have kb : ∀ i, i < w1.heap.size → v.ownBlock ≠ some i → w2.heap[i]? = w1.heap[i]? := fun i hi hn => by
    rw [hg.block i (by simp; omega) (fun e => hn e.symm)]
    exact Below.heap_alloc _ _ _ hi
  have hv : ∀ g, v.ownBlock = some g → w.heap.size + 3 ≤ g := fun g hg => (World.ownsRow.lt h.rowT g hg).1
  have k1 := kb (w.heap.size + 1) (by omega) (fun e => by have := hv _ e; omega)
  have k0 := kb w.heap.size (by omega) (fun e => by have := hv _ e; omega)
  refine ⟨(World.cell?_of_block k1).trans h.run, (World.frozen?_of_block k1).trans h.runF, (World.cell?_of_block k0).trans h.bad, (World.frozen?_of_block k0).trans h.badF, hO, ownLater h.rowP fun g hg => ?_, fun g hg hu => ?_, (h.below.alloc h.below.size o).grown hg (by have := h.below.size; simp; omega) (fun k hk => by have := hv k hk; omega)⟩
  · exact kb g (World.ownsRow.lt h.rowP g hg).2 (fun e => h.apart g e hg)
  · have hu2 := (World.ownsRow.lt h.rowP g hu).2
    rcases hbl with hb | hb
    · exact h.apart g (hb ▸ hg) hu
    · rw [hb] at hg
      injection hg with hg
      simp at hg
      omega
theorem TokFr.sct {w : World} {e : Int} {l : List Lx.Tk} {p : List Int} {v u : Value} {w1 w2 : World} {o : Obj} {s : ByteArray} {k un : Nat} (h : TokFr w e l p v u w1) (hs : Sc w1 (w.heap.size + 2) s k un)
    (hg : (w1.alloc o).grownBy w2 v.ownBlock) : Sc w2 (w.heap.size + 2) s k un := by
  refine hs.block ?_
  have hlt := hs.lt
  rw [hg.block _ (by simp; omega) (fun e => by have := (World.ownsRow.lt h.rowT _ e.symm).1; omega)]
  exact Below.heap_alloc _ _ _ hlt
theorem TokFr.note {w : World} {e fr to : Int} {l : List Lx.Tk} {p : List Int} {v u : Value} {w1 w2 : World} {x : Ending} (h : TokFr w e l p v u w1) (hlt : w.heap.size + 2 < w1.heap.size)
    (hn : NoteIs (w.heap.size + 1) w.heap.size (w.heap.size + 3) fr to e u p w1 x w2) : ∃ u', TokFr w to l (if fr ≠ e ∧ p.length < 64 then p ++ [fr] else p) v u' w2 := by
  obtain ⟨_, h1, h2, h3, ⟨u', h4, h5, h6⟩, hk⟩ := hn
  have hu : ∀ g, u.ownBlock = some g → w.heap.size + 3 ≤ g := fun g hg => (World.ownsRow.lt h.rowP g hg).1
  refine ⟨u', h1, h2, h4, h3, ownLater h.rowT fun g hg => ?_, h5, fun g hg hu' => ?_, h.below.trans (hk.below (by omega) ?_)⟩
  · have := World.ownsRow.lt h.rowT g hg
    refine hk.blk g this.2 ?_
    rintro (e1 | e1 | e1)
    · omega
    · omega
    · exact h.apart g hg e1
  · have h7 := (World.ownsRow.lt h.rowT g hg).2
    rcases h6 with hb | ⟨g', hb, hge⟩
    · exact h.apart g hg (hb ▸ hu')
    · rw [hb] at hu'
      injection hu' with hu'
      omega
  · rintro i (e1 | e1 | e1)
    · omega
    · omega
    · have := hu i e1; omega
theorem TokFr.scn {w : World} {e fr to : Int} {l : List Lx.Tk} {p : List Int} {v u : Value} {w1 w2 : World} {x : Ending} {s : ByteArray} {k un : Nat} (h : TokFr w e l p v u w1) (hs : Sc w1 (w.heap.size + 2) s k un)
    (hn : NoteIs (w.heap.size + 1) w.heap.size (w.heap.size + 3) fr to e u p w1 x w2) : Sc w2 (w.heap.size + 2) s k un := by
  refine hs.block (hn.keep.blk _ hs.lt ?_)
  rintro (e1 | e1 | e1)
  · omega
  · omega
  · have := (World.ownsRow.lt h.rowP _ e1).1; omega
structure TokInv (s : ByteArray) (w : World) (k un : Nat) (e : Int) (l : List Lx.Tk) (p : List Int) (v u : Value) (wr : World) : Prop where
  sc : Sc wr (w.heap.size + 2) s k un
  kn : Kn s k un
  unle : un ≤ s.size
  kle : k ≤ s.size
  fr : TokFr w e l p v u wr
  eq : Lx.toks (L s) = (l ++ (Lx.R (L s) k e p.length).1, p ++ (Lx.R (L s) k e p.length).2)
  ll : l.length ≤ k
  pl : p.length ≤ 64
theorem tok_next {s : ByteArray} {w wr w2 : World} {k k1 un un' : Nat} {e : Int} {l : List Lx.Tk} {p : List Int} {v u v' : Value} {c : Lx.B} {r : List Lx.B} (h : TokInv s w k un e l p v u wr)
    (hk1 : k + Lx.blk false ((L s).drop k) = k1) (hd : (L s).drop k1 = c :: r) (hx : (Lx.tok1 (c :: r)).1 ≠ 0) (hsc : Sc w2 (w.heap.size + 2) s (k1 + (Lx.tok1 (c :: r)).2.2) un') (hkn : Kn s (k1 + (Lx.tok1 (c :: r)).2.2) un') (hun : un' ≤ s.size)
    (hfr : TokFr w e (l ++ [⟨(Lx.tok1 (c :: r)).1, ⟨(Lx.tok1 (c :: r)).2.1.toArray⟩, (k1 : Int)⟩]) p v' u w2) : TokInv s w (k1 + (Lx.tok1 (c :: r)).2.2) un' e (l ++ [⟨(Lx.tok1 (c :: r)).1, ⟨(Lx.tok1 (c :: r)).2.1.toArray⟩, (k1 : Int)⟩]) p v' u w2 := by
  obtain ⟨h1, h2⟩ := Lx.R_more (S := L s) e p.length (by rw [L_len]; exact h.kle) hk1 hd
  rw [if_neg hx] at h2
  rw [L_len] at h1
  have hp := Lx.tok1_pos c r
  refine ⟨hsc, hkn, hun, h1, hfr, ?_, ?_, h.pl⟩
  · rw [h.eq, h2]
    simp
  · rw [List.length_append, List.length_singleton]
    have := h.ll
    omega
theorem bad_next {s : ByteArray} {w wr w2 : World} {k k1 un un' : Nat} {e : Int} {l : List Lx.Tk} {p : List Int} {v u u' : Value} {c : Lx.B} {r : List Lx.B} (h : TokInv s w k un e l p v u wr)
    (hk1 : k + Lx.blk false ((L s).drop k) = k1) (hd : (L s).drop k1 = c :: r) (hx : (Lx.tok1 (c :: r)).1 = 0) (hsc : Sc w2 (w.heap.size + 2) s (k1 + (Lx.tok1 (c :: r)).2.2) un') (hkn : Kn s (k1 + (Lx.tok1 (c :: r)).2.2) un') (hun : un' ≤ s.size)
    (hfr : TokFr w ((k1 + (Lx.tok1 (c :: r)).2.2 : Nat) : Int) l (if (k1 : Int) ≠ e ∧ p.length < 64 then p ++ [(k1 : Int)] else p) v u' w2) : TokInv s w (k1 + (Lx.tok1 (c :: r)).2.2) un' ((k1 + (Lx.tok1 (c :: r)).2.2 : Nat) : Int) l (if (k1 : Int) ≠ e ∧ p.length < 64 then p ++ [(k1 : Int)] else p) v u' w2 := by
  obtain ⟨h1, h2⟩ := Lx.R_more (S := L s) e p.length (by rw [L_len]; exact h.kle) hk1 hd
  rw [if_pos hx] at h2
  rw [L_len] at h1
  have hp := Lx.tok1_pos c r
  refine ⟨hsc, hkn, hun, h1, hfr, ?_, ?_, ?_⟩
  · rw [h.eq, h2]
    by_cases hc : (k1 : Int) ≠ e ∧ p.length < 64
    · rw [if_pos hc, if_pos hc]
      simp
    · rw [if_neg hc, if_neg hc]
  · have := h.ll
    omega
  · split
    · rename_i hc
      rw [List.length_append, List.length_singleton]
      omega
    · exact h.pl
def SEnd (a b : Nat) (x u : Value) (X : World) : Prop := X.cell? ⟨a, 1, none⟩ = some x ∧ X.cell? ⟨b, 0, none⟩ = some u
theorem SEnd.keep {a b : Nat} {x u : Value} {X Y : World} (h : SEnd a b x u X) (ha : Y.heap[a]? = X.heap[a]?) (hb : Y.heap[b]? = X.heap[b]?) : SEnd a b x u Y :=
  ⟨(World.cell?_of_block ha).trans h.1, (World.cell?_of_block hb).trans h.2⟩
theorem tok_stop {s : ByteArray} {w wr : World} {k un : Nat} {e : Int} {l : List Lx.Tk} {p : List Int} {v u : Value} (h : TokInv s w k un e l p v u wr) (hk1 : k + Lx.blk false ((L s).drop k) = s.size) :
    Lx.toks (L s) = (l ++ [⟨5, ⟨#[]⟩, (s.size : Int)⟩], p) := by
  have := Lx.R_end (S := L s) e p.length (by rw [L_len]; exact h.kle) (by rw [L_len]; exact hk1)
  rw [h.eq, this, L_len]
  simp
set_option maxRecDepth 100000 in
set_option maxHeartbeats 4000000 in
theorem tokens_yes (A : Option Addr) (n c : Nat) (s : ByteArray) (w : World) (hn : s.size = n) (h : n ≤ 65536) (hS : Src w A s) (hT : Tab w) :
    Calls Tryd.prog 12 #[.slice A n c] w (TokIs s w) := by
  have hcv := (hS.keep (((Below.refl _ _).alloc (Nat.le_refl _) _).alloc (by simp) _)).conv (w := (w.alloc (.cells #[.slice none 0 0] 25)).alloc (.cells #[.int .i64 (-1)] 3)) n c hn
  have hmf : ∀ (fn : Fn) (first cap : Array Value) (w : World), (Instr.makeFunc fn first cap).run Tryd.prog w = .ok (.func fn first cap) w := fun _ _ _ _ => rfl
  have h' : (n : Int) ≤ 65536 := by omega
  have hs : s.size ≤ 65536 := by omega
  have HT := hide hT; have HN := hide hn
  clear hS hT hn
  go_enter Tryd.func12, Tryd.ntmps12
  go_wp2_with fail
  go_step3
  go_wp2_with fail
  go_step3
  go_wp2_with fail
  go_loopw [2] (fun v wr => ∃ (k un : Nat) (e : Int) (l : List Lx.Tk) (p : List Int) (u : Value), TokInv s w k un e l p v u wr) (fun _ wr => s.size + 1 - atOf wr (w.heap.size + 2))
  case atStart =>
    refine ⟨0, 0, -1, [], [], .slice none 0 0, ⟨⟨by go_simp, by go_simp, by go_simp, by go_simp, by go_simp, by simp⟩, fun j h1 h2 => absurd h2 (by omega), Nat.zero_le _, Nat.zero_le _, ⟨by go_simp, by go_simp, by go_simp, by go_simp, World.ownsRow_nil _ _ _ _, World.ownsRow_nil _ _ _ _, (fun g hg => by simp [Value.ownBlock] at hg), ((((Below.refl _ _).alloc (Nat.le_refl _) _).alloc (by simp) _).alloc (by simp; omega) _)⟩, rfl, Nat.le_refl _, by decide⟩⟩
  case round =>
    obtain ⟨k, un, e, l, p, u, hinv⟩ := hrel
    have hne : 0 ≠ w.heap.size + 2 := by have := (unhide HT).lt; omega
    have hTr := (unhide HT).keep hinv.fr.below
    have hsk := skip_any (w.heap.size + 2) s k un wr hinv.sc hinv.kle (by omega) hTr hne
    have HI := hide hinv; have HTR := hide hTr; have HNE := hide hne; have HSK := hide hsk
    clear hinv hTr hne hsk hcv
    obtain ⟨k1, hk1⟩ : ∃ k1, k + Lx.blk false ((L s).drop k) = k1 := ⟨_, rfl⟩
    have hk1le : k1 ≤ s.size := by
      have := Lx.blk_le false ((L s).drop k)
      rw [List.length_drop, L_len] at this
      have := (unhide HI).kle
      omega
    have HK1 := hide hk1
    clear hk1
    go_wp2_with fail
    refine (unhide HSK).mono ?_; rintro x w1 ⟨rfl, hsc1, hb1⟩
    rw [unhide HK1] at hsc1
    have hfr1 := (unhide HI).fr.but hb1 (unhide HI).sc.lt
    have htk := take_any (w.heap.size + 2) s k1 un w1 hsc1 ((unhide HI).kn.mono (by have := unhide HK1; omega)) (unhide HI).unle hk1le (by omega) ((unhide HT).keep hfr1.below) (unhide HNE)
    have c1 := hsc1.c1
    have hlt1 := hsc1.lt
    have HFR1 := hide hfr1; have HTK := hide htk; have HSC1 := hide hsc1
    clear hsc1 hb1 hfr1 htk
    go_wp2_with fail
    by_cases hend : k1 = s.size
    · subst hend
      have hx : Lx.tok1 ((L s).drop s.size) = (5, [], 0) := by rw [List.drop_of_length_le (by rw [L_len]; omega)]; rfl
      have HTK2 := unhide HTK
      rw [hx] at HTK2
      have HTK3 := hide HTK2
      clear HTK2 hx HTK
      refine (unhide HTK3).mono ?_; rintro x w2 ⟨t, un', rfl, ht, hs2, hk2, hu2, hb2⟩
      obtain rfl := ht (by decide)
      have hfr2 := (unhide HFR1).but hb2 hlt1
      have hcs : w2.cell? ⟨w.heap.size + 1 + 1, 1, none⟩ = some (.int .i64 (s.size : Int)) := hs2.c1
      have HFR2 := hide hfr2
      have hsz : w.heap.size + 1 + 1 < w2.heap.size := hs2.lt
      have hsz0 : w.heap.size < w2.heap.size := by omega
      have hstop := tok_stop (unhide HI) (unhide HK1)
      have HSTOP := hide hstop
      obtain ⟨Bu, nu, cu, rfl⟩ : ∃ B n c, u = .slice B n c := by
        rcases (unhide HFR2).rowP.2 with ⟨h1, h0⟩ | ⟨g, cap, cur, h1, _⟩
        · exact ⟨none, 0, 0, h1⟩
        · exact ⟨_, _, cap, h1⟩
      have hll : l.length ≤ 1000000 := by have := (unhide HI).ll; have := (unhide HI).kle; omega
      have HCS := hide hcs
      clear ht hs2 hk2 hu2 hb2 hfr2 hstop hcs
      go_wp2_with fail
      obtain ⟨W, hW⟩ : ∃ W, W = w2.drewN 1 := ⟨_, rfl⟩
      have HW : Hid (W = w2.drewN 1) := hW
      have hBW := below_named HW
      have hSW : SEnd (w.heap.size + 1 + 1) w.heap.size (.int .i64 (s.size : Int)) (.slice Bu nu cu) W := SEnd.keep (X := w2) ⟨unhide HCS, (unhide HFR2).bad⟩ (hBW.block _ hsz) (hBW.block _ hsz0)
      have hszW : w.heap.size + 1 + 1 < W.heap.size := Nat.lt_of_lt_of_le hsz hBW.size
      have hOW : OwnT W (w.heap.size + 3) u2 l := ownLater (unhide HFR2).rowT fun g hg => hBW.block g (World.ownsRow.lt (unhide HFR2).rowT g hg).2
      have hPW : OwnP W (w.heap.size + 3) (.slice Bu nu cu) p := ownLater (unhide HFR2).rowP fun g hg => hBW.block g (World.ownsRow.lt (unhide HFR2).rowP g hg).2
      have hbb : Below w.heap.size w W := (unhide HFR2).below.trans (hBW.mono (Nat.le_of_lt hsz0))
      have hfF : W.frozen? ⟨w.heap.size, 0, none⟩ = false := (World.frozen?_of_block (hBW.block _ hsz0)).trans (unhide HFR2).badF
      have HOW := hide hOW; have HPW := hide hPW; have HBB := hide hbb; have HFF := hide hfF
      clear hOW hPW hbb hfF
      have hfc1 := fun V (hV : SEnd (w.heap.size + 1 + 1) w.heap.size (.int .i64 (s.size : Int)) (.slice Bu nu cu) V) => hV.1
      have hfc2 := fun V (hV : SEnd (w.heap.size + 1 + 1) w.heap.size (.int .i64 (s.size : Int)) (.slice Bu nu cu) V) => hV.2
      clear hW
      refine held (S := SEnd (w.heap.size + 1 + 1) w.heap.size (.int .i64 (s.size : Int)) (.slice Bu nu cu)) W HW (by kernel_rfl) ?_
      refine wpAnyH_take (i := 0) (v := ?_) rfl (by kernel_rfl) (by kernel_rfl) (by kernel_rfl) (fun _ _ _ h => h) (Or.inl ⟨by kernel_rfl, ?_⟩) (by assumption) ?_
      rotate_left
      · intro Wt hSt
        go_simp
        try with_reducible rfl
      try simp only [List.getElem_toArray, List.getElem_cons_zero, List.getElem_cons_succ, Act.put, List.setIfInBounds_toArray, List.set_cons_zero, List.set_cons_succ]
      refine wpAnyH_take (i := 1) (v := ?_) rfl (by kernel_rfl) (by kernel_rfl) (by kernel_rfl) (fun _ _ _ h => h) (Or.inl ⟨by kernel_rfl, ?_⟩) (by assumption) ?_
      rotate_left
      · intro Wt hSt
        go_simp
        try with_reducible rfl
      try simp only [List.getElem_toArray, List.getElem_cons_zero, List.getElem_cons_succ, Act.put, List.setIfInBounds_toArray, List.set_cons_zero, List.set_cons_succ]
      refine wpAnyH_take (i := 2) (v := ?_) rfl (by kernel_rfl) (by kernel_rfl) (by kernel_rfl) (fun _ _ _ h => h) (Or.inl ⟨by kernel_rfl, ?_⟩) (by assumption) ?_
      rotate_left
      · intro Wt hSt
        go_simp
        try with_reducible rfl
      try simp only [List.getElem_toArray, List.getElem_cons_zero, List.getElem_cons_succ, Act.put, List.setIfInBounds_toArray, List.set_cons_zero, List.set_cons_succ]
      refine wpAnyH_take (i := 3) (v := ?_) rfl (by kernel_rfl) (by kernel_rfl) (by kernel_rfl) (fun _ _ _ h => h) (Or.inl ⟨by kernel_rfl, ?_⟩) (by assumption) ?_
      rotate_left
      · intro Wt hSt
        go_simp
        try with_reducible rfl
      try simp only [List.getElem_toArray, List.getElem_cons_zero, List.getElem_cons_succ, Act.put, List.setIfInBounds_toArray, List.set_cons_zero, List.set_cons_succ]
      refine wpAnyH_take (i := 6) (v := ?_) rfl (by kernel_rfl) (by kernel_rfl) (by kernel_rfl) (fun _ _ _ h => h) (Or.inl ⟨by kernel_rfl, ?_⟩) (by assumption) ?_
      rotate_left
      · intro Wt hSt
        go_simp
        try with_reducible rfl
      try simp only [List.getElem_toArray, List.getElem_cons_zero, List.getElem_cons_succ, Act.put, List.setIfInBounds_toArray, List.set_cons_zero, List.set_cons_succ]
      refine wpAnyH_one 4 _ rfl (by kernel_rfl) (by kernel_rfl) ?_
      intro Kt hK
      go_simp
      generalize hX1 : W.alloc _ = W1
      have e0 : W1.cell? ⟨W.heap.size, 0, none⟩ = some (.int .i64 5) := by subst hX1; go_simp
      have e1 : W1.cell? ⟨W.heap.size, 1, none⟩ = some (.string ⟨#[]⟩) := by subst hX1; go_simp
      have e2 : W1.cell? ⟨W.heap.size, 2, none⟩ = some (.int .i64 (s.size : Int)) := by subst hX1; go_simp
      have b1 : ∀ i, i < W.heap.size → W1.heap[i]? = W.heap[i]? := fun i hi => by rw [← hX1]; exact Below.heap_alloc _ _ _ hi
      have z1 : W.heap.size < W1.heap.size := by rw [← hX1]; simp
      have B1 : Below w.heap.size w W1 := by rw [← hX1]; exact (unhide HBB).alloc (by omega) _
      clear hX1
      have o1 : OwnT W1 (w.heap.size + 3) u2 l := ownLater (unhide HOW) fun g hg => b1 g (World.ownsRow.lt (unhide HOW) g hg).2
      have p1 : OwnP W1 (w.heap.size + 3) (.slice Bu nu cu) p := ownLater (unhide HPW) fun g hg => b1 g (World.ownsRow.lt (unhide HPW) g hg).2
      have S1 := SEnd.keep hSW (b1 _ hszW) (b1 w.heap.size (by omega))
      refine hK _ _ S1 ?_
      clear hK Kt
      try simp only [List.getElem_toArray, List.getElem_cons_zero, List.getElem_cons_succ, Act.put, List.setIfInBounds_toArray, List.set_cons_zero, List.set_cons_succ]
      refine wpAnyH_one 5 _ rfl (by kernel_rfl) (by kernel_rfl) ?_
      intro Kt hK
      obtain ⟨v3, W3, hr3, ho3, hg3, hb3⟩ := run_append_T o1 24 W.heap.size 1 ⟨5, ⟨#[]⟩, (s.size : Int)⟩ e0 e1 e2 hll (by omega)
      have b3 : ∀ i, i < W1.heap.size → u2.ownBlock ≠ some i → W3.heap[i]? = W1.heap[i]? := fun i hi hn => hg3.block i hi (fun e => hn e.symm)
      have hlo : ∀ g, u2.ownBlock = some g → w.heap.size + 3 ≤ g := fun g hg => (World.ownsRow.lt o1 g hg).1
      have hne1 : u2.ownBlock ≠ some (w.heap.size + 1 + 1) := fun e => by have := hlo _ e; omega
      have hne0 : u2.ownBlock ≠ some w.heap.size := fun e => by have := hlo _ e; omega
      have S3 := SEnd.keep S1 (b3 _ (by omega) hne1) (b3 _ (by omega) hne0)
      have p3 : OwnP W3 (w.heap.size + 3) (.slice Bu nu cu) p := ownLater p1 fun g hg => b3 g (World.ownsRow.lt p1 g hg).2 (fun e => (unhide HFR2).apart g e hg)
      have B3 : Below w.heap.size w W3 := B1.grown hg3 (by omega) (fun g hg => by have := hlo g hg; omega)
      have z3 := hg3.size
      have f3 : W3.frozen? ⟨w.heap.size, 0, none⟩ = false := (World.frozen?_of_block ((b3 _ (by omega) hne0).trans (b1 _ (by omega)))).trans (unhide HFF)
      refine wp_append (.tmp 42) (.tmp 46) 24 rfl _ _ v3 W3 rfl rfl hr3 ?_
      refine hK _ _ S3 ?_
      clear hK Kt
      try simp only [List.getElem_toArray, List.getElem_cons_zero, List.getElem_cons_succ, Act.put, List.setIfInBounds_toArray, List.set_cons_zero, List.set_cons_succ]
      refine wpAnyH_one 7 _ rfl (by kernel_rfl) (by kernel_rfl) ?_
      intro Kt hK
      go_simp
      refine hK _ _ S3 ?_
      clear hK Kt
      try simp only [List.getElem_toArray, List.getElem_cons_zero, List.getElem_cons_succ, Act.put, List.setIfInBounds_toArray, List.set_cons_zero, List.set_cons_succ]
      have cN := S3.2
      have zN : w.heap.size < W3.heap.size := by omega
      refine wpAnyH_one 8 _ rfl (by kernel_rfl) (by kernel_rfl) ?_
      intro Kt hK
      go_simp
      have S4 : SEnd (w.heap.size + 1 + 1) w.heap.size (.int .i64 (s.size : Int)) (.slice Bu nu cu) (W3.setCell ⟨w.heap.size, 0, none⟩ (.slice Bu nu cu)) := by
        refine ⟨(World.cell?_of_block (Below.heap_setCell _ _ _ _ (show w.heap.size + 1 + 1 ≠ w.heap.size by omega))).trans S3.1, by go_simp⟩
      refine hK _ _ S4 ?_
      clear hK Kt
      try simp only [List.getElem_toArray, List.getElem_cons_zero, List.getElem_cons_succ, Act.put, List.setIfInBounds_toArray, List.set_cons_zero, List.set_cons_succ]
      refine wpAnyH_one 9 _ rfl (by kernel_rfl) (by kernel_rfl) ?_
      intro Kt hK
      go_simp
      refine hK _ _ S4 ?_
      clear hK Kt
      try simp only [List.getElem_toArray, List.getElem_cons_zero, List.getElem_cons_succ, Act.put, List.setIfInBounds_toArray, List.set_cons_zero, List.set_cons_succ]
      refine wpAnyH_chainOf [] _ _ _ (by kernel_rfl) (by kernel_rfl) ?_
      refine wpChain_nil ?_
      have hO4 : ∀ u, OwnT (W3.setCell ⟨w.heap.size, 0, none⟩ u) w.heap.size v3 (l ++ [⟨5, ⟨#[]⟩, (s.size : Int)⟩]) := fun u => ownMono (ownLater ho3 fun g hg => Below.heap_setCell _ _ _ _ (by have := (World.ownsRow.lt ho3 g hg).1; show g ≠ w.heap.size; omega)) (by omega)
      have hP4 : ∀ u, OwnP (W3.setCell ⟨w.heap.size, 0, none⟩ u) w.heap.size (.slice Bu nu cu) p := fun u => ownMono (ownLater p3 fun g hg => Below.heap_setCell _ _ _ _ (by have := (World.ownsRow.lt p3 g hg).1; show g ≠ w.heap.size; omega)) (by omega)
      have HO4 := hide hO4; have HP4 := hide hP4; have HB3 := hide B3
      have c4 := S4.2
      clear hO4 hP4 B3 hr3 ho3 hg3 hb3 b3 hlo hne1 hne0 p3 S3 S1 o1 p1 B1 b1 e0 e1 e2 hfc1 hfc2 S4 hSW hBW cN
      go_wp2_with fail
      rw [Exit.noGoto_ret]
      refine bodyPost_ret (v := .tuple #[v3, .slice Bu nu cu, .int .i64 0]) (by simp [results, Tryd.results12, go_sem, c4]) rfl ⟨_, _, rfl, ?_, ?_, (unhide HB3).setCell (Nat.le_refl _) _⟩
      · rw [unhide HSTOP]; exact (unhide HO4) _
      · rw [unhide HSTOP]; exact (unhide HP4) _
    · obtain ⟨ch, r, hd⟩ : ∃ ch r, (L s).drop k1 = ch :: r := by
        cases hc : (L s).drop k1 with
        | nil => have := congrArg List.length hc; rw [List.length_drop, L_len] at this; simp at this; omega
        | cons ch r => exact ⟨ch, r, rfl⟩
      have hkd := Lx.tok1_kind ch r
      have HTK2 := unhide HTK
      rw [hd] at HTK2
      have HTK3 := hide HTK2
      have HD := hide hd
      have hmore := (Lx.R_more (S := L s) e p.length (by rw [L_len]; exact (unhide HI).kle) (unhide HK1) hd).1
      have hpos := (Lx.tok1_pos ch r).1
      rw [L_len] at hmore
      have hll : l.length ≤ 1000000 := by have := (unhide HI).ll; have := (unhide HI).kle; omega
      clear HTK2 HTK hd
      obtain ⟨x, hx⟩ : ∃ x, x = Lx.tok1 (ch :: r) := ⟨_, rfl⟩
      have HX := hide hx
      rw [← hx] at HTK3 hkd hmore hpos
      clear hx
      obtain ⟨kd, tx, m⟩ := x
      simp only at hkd hmore hpos
      have hm5 : ((kd : Int) == 5) = false := by rw [beq_eq_false_iff_ne]; omega
      refine (unhide HTK3).mono ?_; rintro x w2 ⟨t, un', rfl, ht, hs2, hk2, hu2, hb2⟩
      simp only at ht hs2 hk2
      have hfr2 := (unhide HFR1).but hb2 hlt1
      have c2 : w2.cell? ⟨w.heap.size + 1 + 1, 1, none⟩ = some (.int .i64 ((k1 + m : Nat) : Int)) := hs2.c1
      have hsz : w.heap.size + 1 + 1 < w2.heap.size := hs2.lt
      have HFR2 := hide hfr2; have HSC2 := hide hs2; have HK2 := hide hk2; have HU2 := hide hu2
      clear hs2 hk2 hu2 hb2 hfr2
      by_cases h0 : kd = 0
      · subst h0
        have hnote := note_any (w.heap.size + 1) w.heap.size (w.heap.size + 3) (k1 : Int) ((k1 + m : Nat) : Int) e u p w2 (by omega) (by omega) (by omega) (by omega) (unhide HI).pl (unhide HFR2).run (unhide HFR2).runF (unhide HFR2).bad (unhide HFR2).badF (unhide HFR2).rowP
        have HNO := hide hnote
        clear hnote ht
        go_wp2_with fail
        refine (unhide HNO).mono ?_; rintro y w3 hn3
        have hret := hn3.ret
        obtain ⟨u', hfr3⟩ := (unhide HFR2).note hsz hn3
        have hsc3 := (unhide HFR2).scn (unhide HSC2) hn3
        subst hret
        have hx := unhide HX
        have hin := bad_next (unhide HI) (unhide HK1) (unhide HD) (by rw [← hx]) (by rw [← hx]; exact hsc3) (by rw [← hx]; exact unhide HK2) (unhide HU2) (by rw [← hx]; exact hfr3)
        rw [← hx] at hin
        have HIN := hide hin
        have hat := hsc3.atOf
        have HAT := hide hat
        clear hin hsc3 hfr3 hn3 hx hat
        go_wp2_with fail
        go_roundw
        case rel => exact ⟨k1 + m, un', _, l, _, u', unhide HIN⟩
        case measure =>
          rw [unhide HAT, (unhide HI).sc.atOf]
          have := unhide HK1
          omega
      · obtain rfl := ht h0
        have h0b : ((kd : Int) == 0) = false := by rw [beq_eq_false_iff_ne]; omega
        go_wp2_with (at_builtin; refine wpList_appT rfl _ _ rfl (w.heap.size + 3) _ l ⟨(kd : Int), ⟨tx.toArray⟩, (k1 : Int)⟩ w2.heap.size 1 rfl rfl (World.ownsRow.alloc (unhide HFR2).rowT _) ?c1 ?c2 ?c3 ?c4 ?c5 ?_)
        case c4 => exact hll
        case c5 => simp; omega
        intro v3 w3 hown hgrow hbl
        have hfr3 := (unhide HFR2).tok hsz hgrow hown (by rw [World.size_alloc]; exact hbl)
        have hsc3 := (unhide HFR2).sct (unhide HSC2) hgrow
        have hx := unhide HX
        have hin := tok_next (v' := v3) (w2 := w3) (un' := un') (unhide HI) (unhide HK1) (unhide HD) (by rw [← hx]; exact h0) (by rw [← hx]; exact hsc3) (by rw [← hx]; exact unhide HK2) (unhide HU2) (by rw [← hx]; exact hfr3)
        rw [← hx] at hin
        have HIN := hide hin
        have hat := hsc3.atOf
        have HAT := hide hat
        clear hin hsc3 hfr3 hx hat hown hgrow hbl
        go_wp2_with fail
        go_roundw
        case rel => exact ⟨k1 + m, un', e, _, p, u, unhide HIN⟩
        case measure =>
          rw [unhide HAT, (unhide HI).sc.atOf]
          have := unhide HK1
          omega
end Go.Proofs.YtjppjbkndfbnhaaDoor
