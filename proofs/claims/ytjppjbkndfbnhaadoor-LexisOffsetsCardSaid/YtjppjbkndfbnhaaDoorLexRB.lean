/- Contracts over the program of lexis: the reference's white space and quoted texts. -/
import Derived.Test.YtjppjbkndfbnhaaDoorLexRI
namespace Go.Proofs.YtjppjbkndfbnhaaDoor
set_option linter.unusedSimpArgs false
set_option linter.unusedVariables false
open Go.RowKit

theorem Src.at_ {w : World} {A : Option Addr} {s : ByteArray} (h : Src w A s) (k : Nat) (hk : k < s.size) : ∃ b o, A = some ⟨b, o, none⟩ ∧ b < w.heap.size ∧ w.cell? ⟨b, o + k, none⟩ = some (.int .u8 (s[k].toNat : Int)) := by
  obtain ⟨b, o, e, hlt, hc⟩ := h.cell (by omega)
  exact ⟨b, o, e, hlt, hc k hk⟩
theorem blk_space {c : Lx.B} {r : List Lx.B} (h : Lx.isSpc c = true) : Lx.blk false (c :: r) = 1 + Lx.blk false r := by rw [Lx.blk, if_pos h]
theorem blk_stop {c : Lx.B} {r : List Lx.B} (h : ¬ Lx.isSpc c = true) (h2 : c ≠ 35) : Lx.blk false (c :: r) = 0 := by rw [Lx.blk, if_neg h, if_neg h2]
theorem blk_hash {r : List Lx.B} : Lx.blk false (35 :: r) = Lx.blk true (35 :: r) := by
  have h1 : Lx.blk false (35 :: r) = 1 + Lx.blk true r := by rw [Lx.blk, if_neg (by decide), if_pos rfl]
  have h2 : Lx.blk true (35 :: r) = 1 + Lx.blk true r := by rw [Lx.blk, if_neg (by decide)]
  rw [h1, h2]
theorem blk_end (l : List Lx.B) (h : l = [] ∨ ∃ r, l = 10 :: r) : Lx.blk true l = Lx.blk false l := by
  rcases h with rfl | ⟨r, rfl⟩
  · rfl
  · rw [Lx.blk, if_pos rfl, Lx.blk, if_pos (by decide)]
set_option maxRecDepth 100000 in
set_option maxHeartbeats 4000000 in
theorem rblank_any (A : Option Addr) (n c k : Nat) (s : ByteArray) (w : World) (hn : s.size = n) (hS : Src w A s) (hk : k ≤ n) (hl : n ≤ 1000000) :
    Calls Tryd.prog 27 #[.slice A n c, .int .i64 (k : Int)] w fun e w' => e = .returned (.int .i64 ((k + Lx.blk false ((L s).drop k) : Nat) : Int)) ∧ w' = w := by
  obtain ⟨X, hX⟩ : ∃ X, k + Lx.blk false ((L s).drop k) = X := ⟨_, rfl⟩
  rw [hX]
  have HS := hide hS; have HN := hide hn; have HX := hide hX
  clear hS hn hX
  go_enter Tryd.func27, Tryd.ntmps27
  go_wp2_with fail
  go_loop [1] (fun i => ∃ j : Nat, j ≤ n ∧ j + Lx.blk false ((L s).drop j) = X ∧ i = .int .i64 (j : Int)) (fun i => n - (intOf i).toNat)
  case atStart => exact ⟨k, hk, unhide HX, rfl⟩
  case round =>
    obtain ⟨j, hj, hjX, rfl⟩ := hrel
    have HJX := hide hjX
    clear hjX
    by_cases hlt : j < n
    · have hjs : j < s.size := by have := unhide HN; omega
      obtain ⟨b, o, rfl, _, hc⟩ := (unhide HS).at_ j hjs
      have HD := hide (L_drop s j hjs)
      have hspi := Lx.isSpc_iff s[j]
      by_cases hsp : Lx.isSpc s[j] = true
      · have HNX := hide (show (j + 1) + Lx.blk false ((L s).drop (j + 1)) = X by
          have := unhide HJX
          rw [unhide HD, blk_space hsp] at this
          omega)
        have h4 := hspi.1 hsp
        clear hspi hsp
        rcases h4 with h4 | h4 | h4 | h4
        · have q1 : ((s[j].toNat : Int) == 32) = true := by rw [h4]; rfl
          clear h4
          go_wp2_with fail
          go_round
          case rel => exact ⟨j + 1, by omega, unhide HNX, by go_num⟩
          case measure => simp [intOf]; omega
        · have q1 : ((s[j].toNat : Int) == 32) = false := by rw [h4]; rfl
          have q2 : ((s[j].toNat : Int) == 9) = true := by rw [h4]; rfl
          clear h4
          go_wp2_with fail
          go_round
          case rel => exact ⟨j + 1, by omega, unhide HNX, by go_num⟩
          case measure => simp [intOf]; omega
        · have q1 : ((s[j].toNat : Int) == 32) = false := by rw [h4]; rfl
          have q2 : ((s[j].toNat : Int) == 9) = false := by rw [h4]; rfl
          have q3 : ((s[j].toNat : Int) == 10) = true := by rw [h4]; rfl
          clear h4
          go_wp2_with fail
          go_round
          case rel => exact ⟨j + 1, by omega, unhide HNX, by go_num⟩
          case measure => simp [intOf]; omega
        · have q1 : ((s[j].toNat : Int) == 32) = false := by rw [h4]; rfl
          have q2 : ((s[j].toNat : Int) == 9) = false := by rw [h4]; rfl
          have q3 : ((s[j].toNat : Int) == 10) = false := by rw [h4]; rfl
          have q4 : ((s[j].toNat : Int) == 13) = true := by rw [h4]; rfl
          clear h4
          go_wp2_with fail
          go_round
          case rel => exact ⟨j + 1, by omega, unhide HNX, by go_num⟩
          case measure => simp [intOf]; omega
      · have h4 : ¬ (s[j].toNat = 32 ∨ s[j].toNat = 9 ∨ s[j].toNat = 10 ∨ s[j].toNat = 13) := fun e => hsp (hspi.2 e)
        have q1 : ((s[j].toNat : Int) == 32) = false := by rw [beq_eq_false_iff_ne]; omega
        have q2 : ((s[j].toNat : Int) == 9) = false := by rw [beq_eq_false_iff_ne]; omega
        have q3 : ((s[j].toNat : Int) == 10) = false := by rw [beq_eq_false_iff_ne]; omega
        have q4 : ((s[j].toNat : Int) == 13) = false := by rw [beq_eq_false_iff_ne]; omega
        by_cases h35 : s[j] = 35
        · have q5 : ((s[j].toNat : Int) != 35) = false := by rw [h35]; rfl
          have HBX := hide (show j + Lx.blk true ((L s).drop j) = X by
            have := unhide HJX
            rw [unhide HD, h35, blk_hash, ← h35, ← unhide HD] at this
            exact this)
          have h10 : s[j] ≠ 10 := by rw [h35]; decide
          have H10 := hide h10
          clear hspi hsp h4 h35 h10
          go_wp2_with fail
          go_loop [1] (fun i => ∃ m : Nat, j ≤ m ∧ m ≤ n ∧ m + Lx.blk true ((L s).drop m) = X ∧ i = .int .i64 (m : Int)) (fun i => n - (intOf i).toNat)
          case atStart => exact ⟨j, Nat.le_refl _, hj, unhide HBX, rfl⟩
          case round =>
            obtain ⟨m, hm1, hm2, hmX, rfl⟩ := hrel
            have HMX := hide hmX
            clear hmX
            by_cases hmlt : m < n
            · have hms : m < s.size := by have := unhide HN; omega
              obtain ⟨b', o', e', _, hcm⟩ := (unhide HS).at_ m hms
              obtain ⟨rfl, rfl⟩ : b = b' ∧ o = o' := by injection e' with e'; injection e' with e1 e2 e3; exact ⟨e1, e2⟩
              have HDM := hide (L_drop s m hms)
              clear e'
              by_cases hm10 : s[m] = 10
              · have p1 : ((s[m].toNat : Int) != 10) = false := by rw [hm10]; rfl
                have HNX := hide (show m + Lx.blk false ((L s).drop m) = X by
                  rw [← blk_end _ (.inr ⟨_, by rw [unhide HDM, hm10]⟩)]; exact unhide HMX)
                have hjm : j < m := by
                  rcases Nat.lt_or_ge j m with h | h
                  · exact h
                  · obtain rfl : m = j := by omega
                    exact absurd hm10 (unhide H10)
                clear hm10
                go_wp2_with fail
                go_round
                case rel => exact ⟨m, hm2, unhide HNX, rfl⟩
                case measure => simp [intOf]; omega
              · have p1 : ((s[m].toNat : Int) != 10) = true := toNat_ne (n := 10) (by decide) hm10
                have HNX := hide (show (m + 1) + Lx.blk true ((L s).drop (m + 1)) = X by
                  have := unhide HMX
                  rw [unhide HDM, Lx.blk, if_neg hm10] at this
                  omega)
                clear hm10
                go_wp2_with fail
                go_round
                case rel => exact ⟨m + 1, by omega, by omega, unhide HNX, by go_num⟩
                case measure => simp [intOf]; omega
            · obtain rfl : m = n := by omega
              have HNX := hide (show m + Lx.blk false ((L s).drop m) = X by
                rw [← blk_end _ (.inl (List.drop_of_length_le (by rw [L_len]; have := unhide HN; omega)))]; exact unhide HMX)
              go_wp2_with fail
              go_round
              case rel => exact ⟨m, hm2, unhide HNX, rfl⟩
              case measure => simp [intOf]; omega
        · have q5 : ((s[j].toNat : Int) != 35) = true := toNat_ne (n := 35) (by decide) h35
          have HE := hide (show (j : Int) = (X : Int) by
            have := unhide HJX
            rw [unhide HD, blk_stop hsp h35] at this
            omega)
          clear hspi hsp h4 h35
          go_wp2_with fail
          go_ret
          exact ⟨retI (unhide HE), rfl⟩
    · have HE := hide (show (j : Int) = (X : Int) by
        have := unhide HJX
        rw [List.drop_of_length_le (by rw [L_len]; have := unhide HN; omega), show Lx.blk false [] = 0 from rfl] at this
        omega)
      go_wp2_with fail
      go_ret
      exact ⟨retI (unhide HE), rfl⟩

/-- how the reference's Quoted ends -/
def rqV : List Lx.B → List Lx.B × Nat
  | [] => ([], 0)
  | c :: r => if c = 34 then (match Lx.qb r with | some x => (x.1, x.2 + 1) | none => ([], 0)) else ([], 0)
def RqIs (x : List Lx.B × Nat) (w : World) (e : Ending) (w' : World) : Prop := e = .returned (.tuple #[.string ⟨x.1.toArray⟩, .int .i64 (x.2 : Int)]) ∧ Below w.heap.size w w'
theorem rq_some {r : List Lx.B} {x : List Lx.B × Nat} (h : Lx.qb r = some x) : rqV (34 :: r) = (x.1, x.2 + 1) := by
  show (if (34 : Lx.B) = 34 then (match Lx.qb r with | some x => (x.1, x.2 + 1) | none => (([] : List Lx.B), 0)) else ([], 0)) = _
  rw [if_pos rfl, h]
theorem rq_none {r : List Lx.B} (h : Lx.qb r = none) : rqV (34 :: r) = ([], 0) := by
  show (if (34 : Lx.B) = 34 then (match Lx.qb r with | some x => (x.1, x.2 + 1) | none => (([] : List Lx.B), 0)) else ([], 0)) = _
  rw [if_pos rfl, h]
theorem unq_none {s : ByteArray} {w wr : World} {k : Nat} {v : Value} {bs : List Lx.B} (h : UnqInv s w k v wr bs) (hq : Lx.qb ((L s).drop k) = none) : Lx.qb ((L s).drop 1) = none := by
  rw [h.eq, hq]; rfl
theorem unq_some {s : ByteArray} {w wr : World} {k : Nat} {v : Value} {bs : List Lx.B} (h : UnqInv s w k v wr bs) (h1 : 1 ≤ k) (hk : k < s.size) (hq : s[k] = 34) : Lx.qb ((L s).drop 1) = some (bs, k) := by
  have hd := L_drop s k hk
  rw [hq] at hd
  rw [h.eq, hd, Lx.qb_quote]
  simp only [Option.map_some, List.append_nil]
  rw [show 1 + (k - 1) = k by omega]
theorem qb_noesc {c : Lx.B} {r : List Lx.B} (hc : c = 92) (h : (Lx.escP r).2 = 0) : Lx.qb (c :: r) = none := by
  subst hc
  refine Lx.qb_stop (by decide) ?_
  show (Lx.meantC 92 r).2 = 0
  unfold Lx.meantC
  rw [if_neg (by decide), if_neg (by decide)]
  exact h
theorem meant_plain {s : ByteArray} {k : Nat} (hk : k < s.size) (hv : Lx.vis s[k] = true) (h92 : s[k] ≠ 92) : Lx.meantP ((L s).drop k) = (s[k], 1) := by
  rw [L_drop s k hk]
  show Lx.meantC _ _ = _
  unfold Lx.meantC
  rw [if_neg (by rw [hv]; decide), if_pos h92]
theorem meant_esc {s : ByteArray} {k : Nat} (hk : k + 1 < s.size) (h92 : s[k] = 92) : Lx.meantP ((L s).drop k) = Lx.escP (s[k + 1] :: (L s).drop (k + 2)) := by
  rw [L_drop s k (by omega), L_drop s (k + 1) hk, h92]
  show Lx.meantC _ _ = _
  unfold Lx.meantC
  rw [if_neg (by decide), if_neg (by decide)]
set_option maxRecDepth 100000 in
set_option maxHeartbeats 4000000 in
theorem rquoted_any (A : Option Addr) (n c : Nat) (s : ByteArray) (w : World) (hn : s.size = n) (hS : Src w A s) (hl : n ≤ 1000000) :
    Calls Tryd.prog 49 #[.slice A n c] w (RqIs (rqV (L s)) w) := by
  unfold RqIs
  by_cases hp : 0 < n
  · have hps : 0 < s.size := by omega
    obtain ⟨b, o, rfl, hlt, hcl⟩ := hS.cell hps
    have hc0 := hcl 0 hps
    rw [Nat.add_zero] at hc0
    have hl0 : L s = s[0] :: (L s).drop 1 := by have := L_drop s 0 hps; rwa [List.drop_zero] at this
    by_cases h34 : s[0] = 34
    · have q0 : ((s[0].toNat : Int) != 34) = false := by rw [h34]; rfl
      have q1 : ((n : Int) == 0) = false := by rw [beq_eq_false_iff_ne]; omega
      rw [h34] at hl0
      have HS := hide hS; have HN := hide hn; have HL0 := hide hl0; have HC := hide hcl
      clear hS hn hl0 h34 hcl
      go_enter Tryd.func49, Tryd.ntmps49
      go_wp2_with fail
      go_loopw [4, 5] (fun v i wr => ∃ (k : Nat) (bs : List Lx.B), 1 ≤ k ∧ k ≤ n ∧ i = .int .i64 (k : Int) ∧ UnqInv s w k v wr bs) (fun _ i _ => n - (intOf i).toNat)
      case atStart =>
        refine ⟨1, [], Nat.le_refl _, hp, rfl, ⟨own_newB w, Nat.zero_le _, by simp, fun j hj hj2 hn' => ?_, (Below.refl _ _).alloc (Nat.le_refl _) _⟩⟩
        obtain rfl : j = 0 := by omega
        exact hn'
      case round =>
        obtain ⟨k, bs, hk1, hk, rfl, hinv⟩ := hrel
        have hszr := hinv.below.size
        have HI := hide hinv
        clear hinv
        by_cases hlt2 : k < n
        · have hks : k < s.size := by have := unhide HN; omega
          have hck := (cell_block ((unhide HI).below.block b hlt)).trans ((unhide HC) k hks)
          have h255 : s[k].toNat < 256 := s[k].toNat_lt
          by_cases k34 : s[k] = 34
          · have p1 : ((s[k].toNat : Int) == 34) = true := by rw [k34]; rfl
            have HF := hide (show rqV (L s) = (bs, k + 1) by rw [unhide HL0, rq_some (unq_some (unhide HI) hk1 hks k34)])
            have hcv := (unhide HI).own.conv
            clear k34
            go_wp2_with fail
            go_ret2
            exact ⟨by rw [unhide HF]; simp, (unhide HI).below⟩
          · have p1 : ((s[k].toNat : Int) == 34) = false := by rw [beq_eq_false_iff_ne]; intro e; exact k34 ((Lx.eq_byte (n := 34) (by decide)).2 (by omega))
            have K34 := hide k34
            clear k34
            cases hv : Lx.vis s[k]
            · have HF := hide (show rqV (L s) = ([], 0) by
                rw [unhide HL0]
                exact rq_none (unq_none (unhide HI) (by
                  rw [L_drop s k hks]
                  exact Lx.qb_stop (unhide K34) (by show (Lx.meantC _ _).2 = 0; unfold Lx.meantC; rw [if_pos hv]))))
              have hvn : s[k].toNat < 32 ∨ 126 < s[k].toNat := by
                unfold Lx.vis at hv
                rw [Bool.and_eq_false_iff, decide_eq_false_iff_not, decide_eq_false_iff_not] at hv
                omega
              clear hv
              rcases hvn with hvn | hvn
              · have p2 : decide ((s[k].toNat : Int) < 32) = true := by rw [decide_eq_true_iff]; omega
                have p2' : (s[k].toNat : Int) < 32 := by omega
                clear hvn
                go_wp2_with fail
                go_ret2
                exact ⟨by rw [unhide HF]; rfl, (unhide HI).below⟩
              · have p2 : decide ((s[k].toNat : Int) < 32) = false := by rw [decide_eq_false_iff_not]; omega
                have p2' : ¬ (s[k].toNat : Int) < 32 := by omega
                have p3 : (126 : Int) < (s[k].toNat : Int) := by omega
                clear hvn
                go_wp2_with fail
                go_ret2
                exact ⟨by rw [unhide HF]; rfl, (unhide HI).below⟩
            · have hvn : 32 ≤ s[k].toNat ∧ s[k].toNat ≤ 126 := by
                unfold Lx.vis at hv
                rw [Bool.and_eq_true, decide_eq_true_iff, decide_eq_true_iff] at hv
                exact hv
              have p2 : decide ((s[k].toNat : Int) < 32) = false := by rw [decide_eq_false_iff_not]; omega
              have p2' : ¬ (s[k].toNat : Int) < 32 := by omega
              have p3' : ¬ (126 : Int) < (s[k].toNat : Int) := by omega
              have p3 : decide ((126 : Int) < (s[k].toNat : Int)) = false := by rw [decide_eq_false_iff_not]; omega
              have HV := hide hv
              clear hv hvn
              by_cases k92 : s[k] = 92
              · have p4 : ((s[k].toNat : Int) != 92) = false := by rw [k92]; rfl
                by_cases hk2 : k + 1 < n
                · have hk2s : k + 1 < s.size := by have := unhide HN; omega
                  have hck2 := (cell_block ((unhide HI).below.block b hlt)).trans ((unhide HC) (k + 1) hk2s)
                  have hme := meant_esc hk2s k92
                  have p5 : ((k : Int) + 1 == (n : Int)) = false := by rw [beq_eq_false_iff_ne]; omega
                  have p5' : ¬ (k : Int) + 1 = (n : Int) := by omega
                  have HME := hide hme; have K92 := hide k92
                  clear hme k92
                  by_cases e1 : s[k + 1] = 34
                  · have q1 : ((s[k + 1].toNat : Int) == 34) = true := by rw [e1]; rfl
                    have HM := hide (show Lx.meantP ((L s).drop k) = (s[k + 1], 2) by rw [unhide HME, escP_cons, if_neg (by rw [e1]; decide), if_pos (.inl e1)])
                    clear e1
                    go_wp2_with (at_builtin; refine wpList_appB rfl _ _ rfl w.heap.size _ bs [s[k + 1]] wr.heap.size 1 1 rfl rfl rfl ?q4 ?q5 ?c3 ?c4 ?_)
                    case q4 => exact World.ownsRow.alloc (unhide HI).own _
                    case q5 => exact fun _ _ h => h
                    case c3 => have := (unhide HI).len; omega
                    case c4 => omega
                    intro v2 w2 hown hgrow
                    have HNX := hide (unq_step (unhide HI) hks hk1 (unhide K34) (unhide HM) (by decide) hown (((unhide HI).below.alloc hszr _).grown hgrow (by simp; omega) (own_lt (unhide HI).own)))
                    clear hown hgrow
                    go_wp2_with fail
                    go_roundw
                    case rel => exact ⟨k + 2, bs ++ [s[k + 1]], by omega, by omega, by go_num, unhide HNX⟩
                    case measure => simp [intOf]; omega
                  · have q1 : ((s[k + 1].toNat : Int) == 34) = false := by rw [beq_eq_false_iff_ne]; intro e; exact e1 ((Lx.eq_byte (n := 34) (by decide)).2 (by omega))
                    by_cases e2 : s[k + 1] = 92
                    · have q2 : ((s[k + 1].toNat : Int) == 92) = true := by rw [e2]; rfl
                      have HM := hide (show Lx.meantP ((L s).drop k) = (s[k + 1], 2) by rw [unhide HME, escP_cons, if_neg (by rw [e2]; decide), if_pos (.inr e2)])
                      clear e1 e2
                      go_wp2_with (at_builtin; refine wpList_appB rfl _ _ rfl w.heap.size _ bs [s[k + 1]] wr.heap.size 1 1 rfl rfl rfl ?q4 ?q5 ?c3 ?c4 ?_)
                      case q4 => exact World.ownsRow.alloc (unhide HI).own _
                      case q5 => exact fun _ _ h => h
                      case c3 => have := (unhide HI).len; omega
                      case c4 => omega
                      intro v2 w2 hown hgrow
                      have HNX := hide (unq_step (unhide HI) hks hk1 (unhide K34) (unhide HM) (by decide) hown (((unhide HI).below.alloc hszr _).grown hgrow (by simp; omega) (own_lt (unhide HI).own)))
                      clear hown hgrow
                      go_wp2_with fail
                      go_roundw
                      case rel => exact ⟨k + 2, bs ++ [s[k + 1]], by omega, by omega, by go_num, unhide HNX⟩
                      case measure => simp [intOf]; omega
                    · have q2 : ((s[k + 1].toNat : Int) == 92) = false := by rw [beq_eq_false_iff_ne]; intro e; exact e2 ((Lx.eq_byte (n := 92) (by decide)).2 (by omega))
                      by_cases e3 : s[k + 1] = 110
                      · have q3 : ((s[k + 1].toNat : Int) == 110) = true := by rw [e3]; rfl
                        have HM := hide (show Lx.meantP ((L s).drop k) = (10, 2) by rw [unhide HME, escP_cons, if_pos e3])
                        clear e1 e2 e3
                        go_wp2_with (at_builtin; refine wpList_appB rfl _ _ rfl w.heap.size _ bs [10] wr.heap.size 1 1 rfl rfl rfl ?q4 ?q5 ?c3 ?c4 ?_)
                        case q4 => exact World.ownsRow.alloc (unhide HI).own _
                        case q5 => exact fun _ _ h => h
                        case c3 => have := (unhide HI).len; omega
                        case c4 => omega
                        intro v2 w2 hown hgrow
                        have HNX := hide (unq_step (unhide HI) hks hk1 (unhide K34) (unhide HM) (by decide) hown (((unhide HI).below.alloc hszr _).grown hgrow (by simp; omega) (own_lt (unhide HI).own)))
                        clear hown hgrow
                        go_wp2_with fail
                        go_roundw
                        case rel => exact ⟨k + 2, bs ++ [10], by omega, by omega, by go_num, unhide HNX⟩
                        case measure => simp [intOf]; omega
                      · have q3 : ((s[k + 1].toNat : Int) == 110) = false := by rw [beq_eq_false_iff_ne]; intro e; exact e3 ((Lx.eq_byte (n := 110) (by decide)).2 (by omega))
                        have HF := hide (show rqV (L s) = ([], 0) by
                          rw [unhide HL0]
                          exact rq_none (unq_none (unhide HI) (by
                            rw [L_drop s k hks]
                            exact qb_noesc (unhide K92) (by rw [L_drop s (k + 1) hk2s, escP_cons, if_neg e3, if_neg (fun e => e.elim e1 e2)]))))
                        clear e1 e2 e3
                        go_wp2_with fail
                        go_ret2
                        exact ⟨by rw [unhide HF]; rfl, (unhide HI).below⟩
                · have HF := hide (show rqV (L s) = ([], 0) by
                    rw [unhide HL0]
                    exact rq_none (unq_none (unhide HI) (by
                      rw [L_drop s k hks, List.drop_of_length_le (show (L s).length ≤ k + 1 by rw [L_len]; have := unhide HN; omega)]
                      exact qb_noesc k92 rfl)))
                  have p5 : ((k : Int) + 1 == (n : Int)) = true := by rw [beq_iff_eq]; omega
                  have p5' : (k : Int) + 1 = (n : Int) := by omega
                  clear k92
                  go_wp2_with fail
                  go_ret2
                  exact ⟨by rw [unhide HF]; rfl, (unhide HI).below⟩
              · have p4 : ((s[k].toNat : Int) != 92) = true := toNat_ne (n := 92) (by decide) k92
                have HM := hide (meant_plain hks (unhide HV) k92)
                clear k92
                go_wp2_with (at_builtin; refine wpList_appB rfl _ _ rfl w.heap.size _ bs [s[k]] wr.heap.size 1 1 rfl rfl rfl ?q4 ?q5 ?c3 ?c4 ?_)
                case q4 => exact World.ownsRow.alloc (unhide HI).own _
                case q5 => exact fun _ _ h => h
                case c3 => have := (unhide HI).len; omega
                case c4 => omega
                intro v2 w2 hown hgrow
                have HN := hide (unq_step (unhide HI) hks hk1 (unhide K34) (unhide HM) (by decide) hown (((unhide HI).below.alloc hszr _).grown hgrow (by simp; omega) (own_lt (unhide HI).own)))
                clear hown hgrow
                go_wp2_with fail
                go_roundw
                case rel => exact ⟨k + 1, bs ++ [s[k]], by omega, by omega, by go_num, unhide HN⟩
                case measure => simp [intOf]; omega
        · have HF := hide (show rqV (L s) = ([], 0) by
            rw [unhide HL0]
            exact rq_none (unq_none (unhide HI) (by rw [List.drop_of_length_le (by rw [L_len]; have := unhide HN; omega)]; rfl)))
          go_wp2_with fail
          go_ret2
          exact ⟨by rw [unhide HF]; rfl, (unhide HI).below⟩
    · have q0 : ((s[0].toNat : Int) != 34) = true := toNat_ne (n := 34) (by decide) h34
      have q1 : ((n : Int) == 0) = false := by rw [beq_eq_false_iff_ne]; omega
      have hf : rqV (L s) = ([], 0) := by rw [hl0]; exact if_neg h34
      rw [hf]
      clear hl0 h34 hcl hS hf
      go_enter Tryd.func49, Tryd.ntmps49
      go_wp2_with fail
      go_ret2
      exact ⟨rfl, Below.refl _ _⟩
  · have hf : rqV (L s) = ([], 0) := by rw [List.eq_nil_iff_length_eq_zero.2 (show (L s).length = 0 by rw [L_len]; omega)]; rfl
    rw [hf]
    obtain rfl : n = 0 := by omega
    clear hS hf
    go_enter Tryd.func49, Tryd.ntmps49
    go_wp2_with fail
    go_ret2
    exact ⟨rfl, Below.refl _ _⟩
end Go.Proofs.YtjppjbkndfbnhaaDoor
