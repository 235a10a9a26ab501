/- Contracts over the program of lexis: the reference's Tokens. -/
import Derived.Test.YtjppjbkndfbnhaaDoorLexRT
import Derived.Test.YtjppjbkndfbnhaaDoorLexSane
namespace Go.Proofs.YtjppjbkndfbnhaaDoor
set_option linter.unusedSimpArgs false
set_option linter.unusedVariables false
open Go.RowKit

theorem rtokens_no (A : Option Addr) (n c : Nat) (w : World) (h : 65536 < n) :
    Calls Tryd.prog 13 #[.slice A n c] w fun e w' => e = .returned (.tuple #[.slice none 0 0, .slice none 0 0, .int .i64 2]) ∧ w' = w := by
  have h' : (65536 : Int) < (n : Int) := by omega
  go_enter Tryd.func13, Tryd.ntmps13
  go_wp2_with fail
  exact bodyPost_ret (v := .tuple #[.slice none 0 0, .slice none 0 0, .int .i64 2]) (by simp [results, Tryd.results13, go_sem]) rfl ⟨rfl, rfl⟩
theorem own_newT (w : World) : OwnT (w.alloc (.cells #[] 41)) w.heap.size (.slice (some ⟨w.heap.size, 0, none⟩) 0 0) [] := World.ownsRow_lit w #[] 0 (Nat.le_refl _) (Nat.zero_le _) rfl
theorem own_newP (w : World) : OwnP (w.alloc (.cells #[] 44)) w.heap.size (.slice (some ⟨w.heap.size, 0, none⟩) 0 0) [] := World.ownsRow_lit w #[] 0 (Nat.le_refl _) (Nat.zero_le _) rfl
theorem own_newP1 (w : World) (o : Obj) : OwnP ((w.alloc o).alloc (.cells #[] 44)) w.heap.size (.slice (some ⟨w.heap.size + 1, 0, none⟩) 0 0) [] := by
  have := own_newP (w.alloc o)
  rw [World.size_alloc] at this
  exact ownMono this (by omega)
/-- what the loop of the reference's Tokens keeps -/
structure RkInv (s : ByteArray) (w : World) (k : Nat) (e : Int) (l : List Lx.Tk) (p : List Int) (v u : Value) (wr : World) : Prop where
  kle : k ≤ s.size
  rowT : OwnT wr w.heap.size v l
  rowP : OwnP wr w.heap.size u p
  apart : ∀ g, v.ownBlock = some g → u.ownBlock ≠ some g
  below : Below w.heap.size w wr
  eq : Lx.toks (L s) = (l ++ (Lx.R (L s) k e p.length).1, p ++ (Lx.R (L s) k e p.length).2)
  ll : l.length ≤ k
  pl : p.length ≤ 64
theorem rk_keep {wr W2 W3 : World} {row : Option Nat} {g : Nat} (hb : Below wr.heap.size wr W2) (hg : W2.grownBy W3 row) (hlt : g < wr.heap.size) (hne : row ≠ some g) : W3.heap[g]? = wr.heap[g]? :=
  (hg.block g (Nat.lt_of_lt_of_le hlt hb.size) (fun e => hne e.symm)).trans (hb.block g hlt)
theorem RkInv.tok {s : ByteArray} {w wr W2 W3 : World} {k k1 : Nat} {e : Int} {l : List Lx.Tk} {p : List Int} {v u v' : Value} {c : Lx.B} {r : List Lx.B} (h : RkInv s w k e l p v u wr)
    (hk1 : k + Lx.blk false ((L s).drop k) = k1) (hd : (L s).drop k1 = c :: r) (hx : (Lx.tok1 (c :: r)).1 ≠ 0) (hb : Below wr.heap.size wr W2) (hg : W2.grownBy W3 v.ownBlock)
    (hO : OwnT W3 w.heap.size v' (l ++ [⟨(Lx.tok1 (c :: r)).1, ⟨(Lx.tok1 (c :: r)).2.1.toArray⟩, (k1 : Int)⟩])) (hbl : v'.ownBlock = v.ownBlock ∨ v'.ownBlock = some W2.heap.size) :
    RkInv s w (k1 + (Lx.tok1 (c :: r)).2.2) e (l ++ [⟨(Lx.tok1 (c :: r)).1, ⟨(Lx.tok1 (c :: r)).2.1.toArray⟩, (k1 : Int)⟩]) p v' u W3 := by
  obtain ⟨h1, h2⟩ := Lx.R_more (S := L s) e p.length (by rw [L_len]; exact h.kle) hk1 hd
  rw [if_neg hx] at h2
  rw [L_len] at h1
  have hp := Lx.tok1_pos c r
  have hsz := hb.size
  refine ⟨h1, hO, ownLater h.rowP fun g hg' => rk_keep hb hg (World.ownsRow.lt h.rowP g hg').2 (fun e => h.apart g e hg'), fun g hg' hu => ?_, (thenB h.below hb).grown hg (Nat.le_trans h.below.size hsz) (fun k hk => (World.ownsRow.lt h.rowT k hk).1), ?_, ?_, h.pl⟩
  · rcases hbl with hb' | hb'
    · exact h.apart g (hb' ▸ hg') hu
    · rw [hb'] at hg'
      injection hg' with hg'
      have := (World.ownsRow.lt h.rowP g hu).2
      omega
  · rw [h.eq, h2]
    simp
  · rw [List.length_append, List.length_singleton]
    have := h.ll
    omega
theorem RkInv.bad0 {s : ByteArray} {w wr W2 : World} {k k1 : Nat} {e : Int} {l : List Lx.Tk} {p : List Int} {v u : Value} {c : Lx.B} {r : List Lx.B} (h : RkInv s w k e l p v u wr)
    (hk1 : k + Lx.blk false ((L s).drop k) = k1) (hd : (L s).drop k1 = c :: r) (hx : (Lx.tok1 (c :: r)).1 = 0) (hc : ¬ ((k1 : Int) ≠ e ∧ p.length < 64)) (hb : Below wr.heap.size wr W2) :
    RkInv s w (k1 + (Lx.tok1 (c :: r)).2.2) ((k1 + (Lx.tok1 (c :: r)).2.2 : Nat) : Int) l p v u W2 := by
  obtain ⟨h1, h2⟩ := Lx.R_more (S := L s) e p.length (by rw [L_len]; exact h.kle) hk1 hd
  rw [if_pos hx, if_neg hc] at h2
  rw [L_len] at h1
  have hp := Lx.tok1_pos c r
  refine ⟨h1, ownLater h.rowT fun g hg' => hb.block g (World.ownsRow.lt h.rowT g hg').2, ownLater h.rowP fun g hg' => hb.block g (World.ownsRow.lt h.rowP g hg').2, h.apart, thenB h.below hb, ?_, ?_, h.pl⟩
  · rw [h.eq, h2]
  · have := h.ll
    omega
theorem RkInv.bad1 {s : ByteArray} {w wr W2 W3 : World} {k k1 : Nat} {e : Int} {l : List Lx.Tk} {p : List Int} {v u u' : Value} {c : Lx.B} {r : List Lx.B} (h : RkInv s w k e l p v u wr)
    (hk1 : k + Lx.blk false ((L s).drop k) = k1) (hd : (L s).drop k1 = c :: r) (hx : (Lx.tok1 (c :: r)).1 = 0) (hc : (k1 : Int) ≠ e ∧ p.length < 64) (hb : Below wr.heap.size wr W2) (hg : W2.grownBy W3 u.ownBlock)
    (hO : OwnP W3 w.heap.size u' (p ++ [(k1 : Int)])) (hbl : u'.ownBlock = u.ownBlock ∨ u'.ownBlock = some W2.heap.size) :
    RkInv s w (k1 + (Lx.tok1 (c :: r)).2.2) ((k1 + (Lx.tok1 (c :: r)).2.2 : Nat) : Int) l (p ++ [(k1 : Int)]) v u' W3 := by
  obtain ⟨h1, h2⟩ := Lx.R_more (S := L s) e p.length (by rw [L_len]; exact h.kle) hk1 hd
  rw [if_pos hx, if_pos hc] at h2
  rw [L_len] at h1
  have hp := Lx.tok1_pos c r
  have hsz := hb.size
  refine ⟨h1, ownLater h.rowT fun g hg' => rk_keep hb hg (World.ownsRow.lt h.rowT g hg').2 (fun e => h.apart g hg' e), hO, fun g hg' hu => ?_, (thenB h.below hb).grown hg (Nat.le_trans h.below.size hsz) (fun k hk => (World.ownsRow.lt h.rowP k hk).1), ?_, ?_, ?_⟩
  · rcases hbl with hb' | hb'
    · exact h.apart g hg' (hb' ▸ hu)
    · rw [hb'] at hu
      injection hu with hu
      have := (World.ownsRow.lt h.rowT g hg').2
      omega
  · rw [h.eq, h2]
    simp
  · have := h.ll
    omega
  · rw [List.length_append, List.length_singleton]
    omega
theorem RkInv.stop {s : ByteArray} {w wr W2 W3 : World} {k : Nat} {e : Int} {l : List Lx.Tk} {p : List Int} {v u v' : Value} (h : RkInv s w k e l p v u wr) (hk1 : k + Lx.blk false ((L s).drop k) = s.size)
    (hb : Below wr.heap.size wr W2) (hg : W2.grownBy W3 v.ownBlock) (hO : OwnT W3 w.heap.size v' (l ++ [⟨5, ⟨#[]⟩, (s.size : Int)⟩])) : TokIs s w (.returned (.tuple #[v', u, .int .i64 0])) W3 := by
  have ht : Lx.toks (L s) = (l ++ [⟨5, ⟨#[]⟩, (s.size : Int)⟩], p) := by
    have := Lx.R_end (S := L s) e p.length (by rw [L_len]; exact h.kle) (by rw [L_len]; exact hk1)
    rw [h.eq, this, L_len]
    simp
  refine ⟨v', u, rfl, ?_, ?_, (thenB h.below hb).grown hg (Nat.le_trans h.below.size hb.size) (fun k hk => (World.ownsRow.lt h.rowT k hk).1)⟩
  · rw [ht]; exact hO
  · rw [ht]; exact ownLater h.rowP fun g hg' => rk_keep hb hg (World.ownsRow.lt h.rowP g hg').2 (fun e => h.apart g e hg')
set_option maxRecDepth 100000 in
set_option maxHeartbeats 8000000 in
theorem rtokens_yes (A : Option Addr) (n c : Nat) (s : ByteArray) (w : World) (hn : s.size = n) (h : n ≤ 65536) (hS : Src w A s) (hc : n ≤ c) :
    Calls Tryd.prog 13 #[.slice A n c] w (TokIs s w) := by
  have h' : ¬ (65536 : Int) < (n : Int) := by omega
  have HN := hide hn; have HS := hide hS
  clear hS hn
  go_enter Tryd.func13, Tryd.ntmps13
  go_wp2_with fail
  go_loopw [5, 6, 7, 8] (fun v u i e wr => ∃ (k : Nat) (ev : Int) (l : List Lx.Tk) (p : List Int), i = .int .i64 (k : Int) ∧ e = .int .i64 ev ∧ RkInv s w k ev l p v u wr) (fun _ _ i _ _ => n - (intOf i).toNat)
  case atStart =>
    refine ⟨0, -1, [], [], rfl, rfl, ⟨Nat.zero_le _, World.ownsRow.alloc (own_newT w) _, own_newP1 w _, fun g hg hu => ?_, ((Below.refl _ _).alloc (Nat.le_refl _) _).alloc (by simp) _, rfl, Nat.le_refl _, by decide⟩⟩
    simp [Value.ownBlock] at hg hu
    omega
  case round =>
    obtain ⟨k, ev, l, p, rfl, rfl, hinv⟩ := hrel
    obtain ⟨k1, hk1⟩ : ∃ k1, k + Lx.blk false ((L s).drop k) = k1 := ⟨_, rfl⟩
    have hkn : k ≤ n := by have := hinv.kle; have := unhide HN; omega
    have hbl := rblank_any A n c k s wr (unhide HN) ((unhide HS).keep hinv.below) hkn (by omega)
    rw [hk1] at hbl
    have hk1le : k1 ≤ n := by
      have := Lx.blk_le false ((L s).drop k)
      rw [List.length_drop, L_len] at this
      have := unhide HN
      omega
    have hkk : k ≤ k1 := by omega
    have hll : l.length ≤ 1000000 := by have := hinv.ll; omega
    have hpl : p.length ≤ 64 := hinv.pl
    have hwr := hinv.below.size
    obtain ⟨A5, c5, rfl, _, _, _⟩ := own_tk hinv.rowT
    obtain ⟨A6, c6, rfl, _, _⟩ := own_pb hinv.rowP
    have HI := hide hinv; have HBL := hide hbl; have HK1 := hide hk1
    clear hinv hbl hk1
    obtain ⟨nl, hnl⟩ : ∃ nl, l.length = nl := ⟨_, rfl⟩
    obtain ⟨np, hnp⟩ : ∃ np, p.length = np := ⟨_, rfl⟩
    rw [hnl] at HI hll ⊢
    rw [hnp] at HI hpl ⊢
    have HNL := hide hnl; have HNP := hide hnp
    clear hnl hnp
    go_wp2_with fail
    refine (unhide HBL).mono ?_; rintro x wx ⟨rfl, rfl⟩
    by_cases hend : k1 = n
    · subst hend
      go_wp2_with (at_builtin; refine wpList_appT rfl _ _ rfl w.heap.size _ l ⟨5, ⟨#[]⟩, (k1 : Int)⟩ wx.heap.size 1 rfl rfl (World.ownsRow.alloc (unhide HI).rowT _) ?a1 ?a2 ?a3 ?a4 ?a5 ?_)
      case a4 => first | (have := unhide HNL; omega)
      case a5 => first | omega | (simp; omega)
      intro v3 w3 hown hgrow hbl
      have hst := (unhide HI).stop ((unhide HK1).trans (unhide HN).symm) ((Below.refl _ _).alloc (Nat.le_refl _) _) hgrow (by rw [unhide HN]; exact hown)
      obtain ⟨A3, c3, rfl, _, _, _⟩ := own_tk hown
      clear hown hgrow hbl
      generalize (l ++ [(⟨5, ⟨#[]⟩, (k1 : Int)⟩ : Lx.Tk)]).length = n3 at hst ⊢
      have HST := hide hst
      clear hst
      go_wp2_with fail
      exact bodyPost_ret (v := .tuple #[.slice A3 n3 c3, .slice A6 np c6, .int .i64 0]) (by simp [results, Tryd.results13, go_sem]) rfl (unhide HST)
    · have hne : ((k1 : Int) == (n : Int)) = false := by rw [beq_eq_false_iff_ne]; omega
      obtain ⟨ch, r, hd⟩ : ∃ ch r, (L s).drop k1 = ch :: r := by
        cases hc' : (L s).drop k1 with
        | nil => have := congrArg List.length hc'; rw [List.length_drop, L_len] at this; have := unhide HN; simp at *; omega
        | cons ch r => exact ⟨ch, r, rfl⟩
      have htk := rtoken_any A n c k1 s wx (unhide HN) ((unhide HS).keep (unhide HI).below) (by omega) (by omega) hc
      have hpos := Lx.tok1_pos ch r
      have hmore := (Lx.R_more (S := L s) ev p.length (by rw [L_len]; exact (unhide HI).kle) (unhide HK1) hd).1
      rw [L_len, unhide HN] at hmore
      have HD := hide hd
      rw [hd] at htk
      obtain ⟨x, hx⟩ : ∃ x, x = Lx.tok1 (ch :: r) := ⟨_, rfl⟩
      rw [← hx] at htk hpos hmore
      have HX := hide hx
      clear hx hd
      obtain ⟨kd, tx, m⟩ := x
      simp only at hpos hmore
      unfold RTok at htk
      simp only at htk
      have hm1 := hpos.1
      have HTK := hide htk
      clear htk hpos
      go_wp2_with fail
      refine (unhide HTK).mono ?_; rintro y w2 ⟨t, rfl, ht1, ht0, hb2⟩
      have hOT := ownLater (unhide HI).rowT fun g hg => hb2.block g (World.ownsRow.lt (unhide HI).rowT g hg).2
      have hOP := ownLater (unhide HI).rowP fun g hg => hb2.block g (World.ownsRow.lt (unhide HI).rowP g hg).2
      have HOT := hide hOT; have HOP := hide hOP; have HB2 := hide hb2
      have hs2 : w.heap.size ≤ w2.heap.size := Nat.le_trans hwr hb2.size
      clear hOT hOP hb2
      by_cases h0 : kd = 0
      · obtain ⟨tk, tt, ta⟩ := t
        obtain rfl : tk = 0 := ht0 h0
        clear ht0 ht1
        by_cases hcc : (k1 : Int) ≠ ev ∧ np < 64
        · have q1 : ((k1 : Int) != ev) = true := by rw [bne_iff_ne]; exact hcc.1
          have q2 : (np : Int) < 64 := by omega
          have HCC := hide hcc
          clear hcc
          go_wp2_with (at_builtin; refine wpList_appP rfl _ _ rfl w.heap.size _ p (k1 : Int) (w2.heap.size + 1) 1 rfl rfl (World.ownsRow.alloc (World.ownsRow.alloc (unhide HOP) _) _) ?d1 ?d2 ?d3 ?d4 ?_)
          case d1 => go_simp
          case d2 => go_simp
          case d3 => first | (have := unhide HNP; omega)
          case d4 => first | omega | (simp; omega)
          intro v3 w3 hown hgrow hbl
          have hin := (unhide HI).bad1 (unhide HK1) (unhide HD) (by rw [← unhide HX]; exact h0) (by rw [unhide HNP]; exact unhide HCC) (((unhide HB2).alloc (unhide HB2).size _).alloc (by have := (unhide HB2).size; simp; omega) _) hgrow hown (by simpa using hbl)
          rw [← unhide HX] at hin
          obtain ⟨A3, c3, rfl, _, _⟩ := own_pb hown
          clear hown hgrow hbl
          generalize (p ++ [(k1 : Int)]).length = n3 at hin ⊢
          have HIN := hide hin
          clear hin
          go_wp2_with fail
          go_roundw
          case rel => exact ⟨k1 + m, _, l, _, by go_num, by go_num, unhide HIN⟩
          case measure => simp [intOf]; omega
        · by_cases hev : (k1 : Int) = ev
          · have q1 : ((k1 : Int) != ev) = false := by rw [hev]; simp
            have hin := (unhide HI).bad0 (unhide HK1) (unhide HD) (by rw [← unhide HX]; exact h0) (by rw [unhide HNP]; exact hcc) ((unhide HB2).alloc (unhide HB2).size (.cells #[.int .i64 0, .string tt, .int .i64 ta] 41))
            rw [← unhide HX] at hin
            have HIN := hide hin
            clear hin hcc hev
            go_wp2_with fail
            go_roundw
            case rel => exact ⟨k1 + m, _, l, _, by go_num, by go_num, unhide HIN⟩
            case measure => simp [intOf]; omega
          · have q1 : ((k1 : Int) != ev) = true := by rw [bne_iff_ne]; exact hev
            have q2 : ¬ (np : Int) < 64 := fun e => hcc ⟨hev, by omega⟩
            have hin := (unhide HI).bad0 (unhide HK1) (unhide HD) (by rw [← unhide HX]; exact h0) (by rw [unhide HNP]; exact hcc) ((unhide HB2).alloc (unhide HB2).size (.cells #[.int .i64 0, .string tt, .int .i64 ta] 41))
            rw [← unhide HX] at hin
            have HIN := hide hin
            clear hin hcc hev
            go_wp2_with fail
            go_roundw
            case rel => exact ⟨k1 + m, _, l, _, by go_num, by go_num, unhide HIN⟩
            case measure => simp [intOf]; omega
      · obtain rfl := ht1 h0
        have q1 : ((kd : Int) != 0) = true := by rw [bne_iff_ne]; omega
        clear ht0 ht1
        go_wp2_with (at_builtin; refine wpList_appT rfl _ _ rfl w.heap.size _ l ⟨(kd : Int), ⟨tx.toArray⟩, (k1 : Int)⟩ (w2.heap.size + 1) 1 rfl rfl (World.ownsRow.alloc (World.ownsRow.alloc (unhide HOT) _) _) ?b1 ?b2 ?b3 ?b4 ?b5 ?_)
        case b4 => first | (have := unhide HNL; omega)
        case b5 => first | omega | (simp; omega)
        intro v3 w3 hown hgrow hbl
        have hin := (unhide HI).tok (v' := v3) (W3 := w3) (unhide HK1) (unhide HD) (by rw [← unhide HX]; exact h0) (((unhide HB2).alloc (unhide HB2).size _).alloc (by have := (unhide HB2).size; simp; omega) _) hgrow (by rw [← unhide HX]; exact hown) (by simpa using hbl)
        rw [← unhide HX] at hin
        obtain ⟨A3, c3, rfl, _, _, _⟩ := own_tk hown
        clear hown hgrow hbl
        simp only at hin
        generalize (l ++ [(⟨(kd : Int), ⟨tx.toArray⟩, (k1 : Int)⟩ : Lx.Tk)]).length = n3 at hin ⊢
        have HIN := hide hin
        clear hin
        go_wp2_with fail
        go_roundw
        case rel => exact ⟨k1 + m, ev, _, p, by go_num, rfl, unhide HIN⟩
        case measure => simp [intOf]; omega
end Go.Proofs.YtjppjbkndfbnhaaDoor
