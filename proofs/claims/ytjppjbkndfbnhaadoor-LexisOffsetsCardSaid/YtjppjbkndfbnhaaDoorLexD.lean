/- Contracts over the program of lexis: quoted texts. -/
import Derived.Test.YtjppjbkndfbnhaaDoorLexC
import Derived.Lib.UnsafeStr
namespace Go.Proofs.YtjppjbkndfbnhaaDoor
set_option linter.unusedSimpArgs false
set_option linter.unusedVariables false
open Go.RowKit

theorem infoByte : (Tryd.prog.info? 5).map (fun i => (i.zero, i.size, i.bytes)) = some (some (.int .u8 0), 1, 1) := by kernel_rfl
def OwnB (w : World) (base : Nat) (v : Value) (l : List Lx.B) : Prop := w.ownsRow base 5 1 v l.length (Lib.byteCells l)
theorem OwnB.later {w W : World} {base : Nat} {v : Value} {l : List Lx.B} (h : OwnB w base v l) (hb : Below w.heap.size w W) : OwnB W base v l := by
  refine ⟨h.1, ?_⟩
  rcases h.2 with h | ⟨g, cap, cur, rfl, hbg, hg, r⟩
  · exact .inl h
  · exact .inr ⟨g, cap, cur, rfl, hbg, (hb.block g (Array.getElem?_eq_some_iff.1 hg).1).trans hg, r⟩
theorem OwnB.conv {w : World} {B : Nat} {v : Value} {l : List Lx.B} (h : OwnB w B v l) :
    (convert 22 9 v).run Tryd.prog w = .ok (.string ⟨l.toArray⟩) w := by
  have hh := h
  rcases h.2 with ⟨rfl, h0⟩ | ⟨g, cap, cur, rfl, _⟩
  · obtain rfl := List.length_eq_zero_iff.1 h0
    exact run_convert_bytes_nil w 22 5 Tryd.underlying22 Tryd.underlying5 0 0 9 Tryd.underlying9
  · have hb : Lib.Bytes w g 0 ⟨l.toArray⟩ := fun i hi => by
      have hi' : i < l.length := hi
      rw [Nat.zero_add, World.ownsRow.cellAt hh i (by omega)]
      simp [Lib.byteCells, hi']
      rfl
    exact Lib.run_convert_whole (P := Tryd.prog) w 22 5 9 Tryd.underlying22 Tryd.underlying5 Tryd.underlying9 g 0 ⟨l.toArray⟩ hb cap
theorem oneAt {w : World} {g : Nat} {v : Value} (h : w.cell? ⟨g, 0, none⟩ = some v) : ∀ (j : Nat) (u : Value), [v][j]? = some u → w.cell? ((⟨g, 0, none⟩ : Addr).add j) = some u := by
  intro j u hj
  match j, hj with
  | 0, hj => simp at hj; subst hj; exact h
  | j + 1, hj => simp at hj
theorem byteOne (u : Int) : ∀ v ∈ [Value.int .u8 u], v.oneCell' = true := by
  intro v hv
  rw [List.mem_singleton.1 hv]
  rfl
theorem own_lt {w : World} {B : Nat} {v : Value} {l : List Lx.B} (h : OwnB w B v l) : ∀ k, v.ownBlock = some k → B ≤ k := fun k hk => (World.ownsRow.lt h k hk).1

/-- how unquote ends -/
def UnqIs (s : ByteArray) (w : World) (e : Ending) (w' : World) : Prop :=
  Below w.heap.size w w' ∧ match Lx.qb ((L s).drop 1) with
    | some x => e = .returned (.tuple #[.string ⟨x.1.toArray⟩, .int .i64 ((x.2 + 1 : Nat) : Int), .bool true])
    | none => ∃ n : Nat, 1 ≤ n ∧ n ≤ s.size ∧ e = .returned (.tuple #[.string ⟨#[]⟩, .int .i64 (n : Int), .bool false]) ∧ ∀ j, j < n → (L s).getD j 0 = 34 → Lx.qb ((L s).drop (j + 1)) = none
/-- what unquote's loop keeps -/
structure UnqInv (s : ByteArray) (w : World) (k : Nat) (v : Value) (wr : World) (bs : List Lx.B) : Prop where
  own : OwnB wr w.heap.size v bs
  len : bs.length ≤ k
  eq : Lx.qb ((L s).drop 1) = (Lx.qb ((L s).drop k)).map fun x => (bs ++ x.1, x.2 + (k - 1))
  no : ∀ j, j < k → (L s).getD j 0 = 34 → Lx.qb ((L s).drop k) = none → Lx.qb ((L s).drop (j + 1)) = none
  below : Below w.heap.size w wr
theorem unq_stop {s : ByteArray} {w wr : World} {k : Nat} {v : Value} {bs : List Lx.B} (h : UnqInv s w k v wr bs) (h1 : 1 ≤ k) (hk : k ≤ s.size) (hq : Lx.qb ((L s).drop k) = none) {w' : World} (hb : Below w.heap.size w w') :
    UnqIs s w (.returned (.tuple #[.string ⟨#[]⟩, .int .i64 (k : Int), .bool false])) w' := by
  refine ⟨hb, ?_⟩
  rw [h.eq, hq]
  exact ⟨k, h1, hk, rfl, fun j hj hj2 => h.no j hj hj2 hq⟩
theorem unq_end {s : ByteArray} {w wr : World} {k : Nat} {v : Value} {bs : List Lx.B} (h : UnqInv s w k v wr bs) (h1 : 1 ≤ k) (hk : k < s.size) (hq : s[k] = 34) {w' : World} (hb : Below w.heap.size w w') :
    UnqIs s w (.returned (.tuple #[.string ⟨bs.toArray⟩, .int .i64 ((k : Int) + 1), .bool true])) w' := by
  refine ⟨hb, ?_⟩
  have hd := L_drop s k hk
  rw [hq] at hd
  rw [h.eq, hd, Lx.qb_quote]
  simp only [Option.map_some, List.append_nil]
  rw [show ((1 + (k - 1) + 1 : Nat) : Int) = (k : Int) + 1 by omega]
theorem unq_step {s : ByteArray} {w wr w1 : World} {k m : Nat} {v v1 : Value} {bs : List Lx.B} {c : Lx.B} (h : UnqInv s w k v wr bs) (hk : k < s.size) (h1 : 1 ≤ k) (hc : s[k] ≠ 34) (hm : Lx.meantP ((L s).drop k) = (c, m)) (h0 : m ≠ 0)
    (ho : OwnB w1 w.heap.size v1 (bs ++ [c])) (hb : Below w.heap.size w w1) : UnqInv s w (k + m) v1 w1 (bs ++ [c]) := by
  have hd := L_drop s k hk
  rw [hd] at hm
  have hg := Lx.qb_go hc (by rw [hm]; exact h0)
  rw [hm, ← hd, List.drop_drop] at hg
  simp only at hg
  have h2 := Lx.meantP_le (s[k] :: (L s).drop (k + 1))
  rw [hm] at h2
  have hk34 : (L s).getD k 0 ≠ 34 := by rw [L_getD s k hk]; exact hc
  refine ⟨ho, ?_, ?_, fun j hj hj2 hn => ?_, hb⟩
  · have := h.len
    rw [List.length_append, List.length_singleton]
    omega
  · rw [h.eq, hg, Option.map_map]
    congr 1
    funext x
    simp only [Function.comp_def, List.append_assoc, List.singleton_append]
    congr 1
    omega
  · by_cases hjk : j < k
    · exact h.no j hjk hj2 (by rw [hg, hn]; rfl)
    · by_cases e : j = k
      · subst e; exact absurd hj2 hk34
      · have e2 : j + 1 = k + m := by simp only at h2; omega
        rw [e2]; exact hn
set_option maxRecDepth 100000 in
set_option maxHeartbeats 4000000 in
theorem unquote_any (s : ByteArray) (hp : 0 < s.size) (hs : s.size ≤ 1000000) (w : World) : Calls Tryd.prog 62 #[.string s] w (UnqIs s w) := by
  obtain ⟨i0, hi, hz0, hz1, hz2⟩ := info_parts infoByte
  go_enter Tryd.func62, Tryd.ntmps62
  go_wp2_with fail
  go_loopw [3, 5] (fun n v wr => ∃ (k : Nat) (bs : List Lx.B), 1 ≤ k ∧ k ≤ s.size ∧ n = .int .i64 (k : Int) ∧ UnqInv s w k v wr bs) (fun n _ _ => s.size - (intOf n).toNat)
  case atStart =>
    refine ⟨1, [], Nat.le_refl _, hp, rfl, ⟨(World.ownsRow_nil _ _ _ _ : World.ownsRow _ _ _ _ _ 0 []), Nat.zero_le _, ?_, fun j hj hj2 hn => ?_, Below.refl _ _⟩⟩
    · simp
    · obtain rfl : j = 0 := by omega
      exact hn
  case round =>
    obtain ⟨k, bs, h1, hk, rfl, hinv⟩ := hrel
    have HI := hide hinv
    clear hinv
    by_cases hlt : k < s.size
    · by_cases h34 : s[k] = 34
      · have h34' : ((s[k].toNat : Int) != 34) = false := by rw [h34]; rfl
        have HQ := hide h34
        have hcv := ((unhide HI).own).conv
        have hne : ((k : Int) == (s.size : Int)) = false := by rw [beq_eq_false_iff_ne]; omega
        have hne' : ¬ (k : Int) = (s.size : Int) := by omega
        clear h34
        go_wp2_with fail
        exact bodyPost_ret (v := .tuple #[.string ⟨bs.toArray⟩, .int .i64 ((k : Int) + 1), .bool true]) (by simp [results, Tryd.results62, go_sem]) rfl (unq_end (unhide HI) h1 hlt (unhide HQ) (unhide HI).below)
      · have h34' : ((s[k].toNat : Int) != 34) = true := toNat_ne (n := 34) (by decide) h34
        have HQ := hide h34
        have hsub : 0 < (s.extract k s.size).size := by rw [ByteArray.size_extract]; omega
        have hmn := fun W => meant_any (s.extract k s.size) hsub W
        rw [L_tail] at hmn
        have hlen := Lx.meantP_le ((L s).drop k)
        rw [List.length_drop, L_len] at hlen
        obtain ⟨⟨c, m⟩, hcm⟩ : ∃ x, Lx.meantP ((L s).drop k) = x := ⟨_, rfl⟩
        rw [hcm] at hmn hlen
        simp only at hlen
        obtain ⟨hlen1, hlen2⟩ := hlen
        unfold MeantIs at hmn
        have HM := hide hmn
        have HCM := hide hcm
        clear hmn hcm h34 hsub
        by_cases h0 : m = 0
        · subst h0
          go_wp2_with fail
          refine ((unhide HM) _).mono ?_; rintro e w' ⟨rfl, rfl⟩
          go_wp2_with fail
          have hst : Lx.qb ((L s).drop k) = none := by
            have hd := L_drop s k hlt
            have hc := unhide HCM
            rw [hd] at hc ⊢
            exact Lx.qb_stop (unhide HQ) (by rw [hc])
          exact bodyPost_ret (v := .tuple #[.string ⟨#[]⟩, .int .i64 (k : Int), .bool false]) (by simp [results, Tryd.results62, go_sem]) rfl (unq_stop (unhide HI) h1 (by omega) hst (unhide HI).below)
        · have h0' : ¬ (m : Int) = 0 := by omega
          have h0b : ((m : Int) == 0) = false := by rw [beq_eq_false_iff_ne]; exact h0'
          go_wp2_with fail
          refine ((unhide HM) _).mono ?_; rintro e w' ⟨rfl, rfl⟩
          go_wp2_with (at_builtin; refine wpList_append_own _ rfl _ _ 22 rfl w.heap.size 5 i0 (.int .u8 0) 1 1 Tryd.underlying22 hi hz0 hz1 hz2 rfl (by decide) _ _ _ rfl (World.ownsRow.alloc (unhide HI).own _) ⟨_, 0, none⟩ 1 1 [.int .u8 (c.toNat : Int)] rfl rfl ?c1 ?c2 ?c3 ?c4 ?c5 ?_)
          case c1 => exact oneAt (by go_simp)
          case c2 => exact byteOne _
          case c3 => have := (unhide HI).len; unfold maxLen; omega
          case c4 => have := (unhide HI).len; omega
          case c5 => have := (unhide HI).below.size; simp; omega
          intro v1 w1 hown hgrow _
          have hO : OwnB w1 w.heap.size v1 (bs ++ [c]) := by
            unfold OwnB
            rw [Lib.byteCells_append, List.length_append]
            exact hown
          have hB : Below w.heap.size w w1 := ((unhide HI).below.alloc (unhide HI).below.size _).grown hgrow (by have := (unhide HI).below.size; simp; omega) (own_lt (unhide HI).own)
          have HN := hide (unq_step (unhide HI) hlt h1 (unhide HQ) (unhide HCM) h0 hO hB)
          clear hown hgrow hO hB
          go_wp2_with fail
          go_roundw
          case rel => exact ⟨k + m, bs ++ [c], by omega, by omega, by go_num, unhide HN⟩
          case measure => simp [intOf]; omega
    · have hst : Lx.qb ((L s).drop k) = none := by rw [List.drop_of_length_le (by rw [L_len]; omega)]; rfl
      have he : ((k : Int) == (s.size : Int)) = true := by rw [beq_iff_eq]; omega
      have he' : (k : Int) = (s.size : Int) := by omega
      have HS := hide hst
      clear hst
      go_wp2_with fail
      exact bodyPost_ret (v := .tuple #[.string ⟨#[]⟩, .int .i64 (k : Int), .bool false]) (by simp [results, Tryd.results62, go_sem]) rfl (unq_stop (unhide HI) h1 (by omega) (unhide HS) (unhide HI).below)
end Go.Proofs.YtjppjbkndfbnhaaDoor
