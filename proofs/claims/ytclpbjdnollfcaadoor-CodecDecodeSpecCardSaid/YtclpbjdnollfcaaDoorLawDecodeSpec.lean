/- The law CodecDecodeSpec returns true for all bytes. -/
import Derived.Test.YtclpbjdnollfcaaDoorCodRAcc
import Derived.Test.YtclpbjdnollfcaaDoorCodLaw
import Derived.Test.YtclpbjdnollfcaaDoorCodRefSame
import Derived.Deep.QuietTactic
import Derived.BigQuiet
namespace Go.Proofs.YtclpbjdnollfcaaDoor
set_option linter.unusedSimpArgs false
set_option linter.unusedVariables false
open Go.RowKit Go.LawClose

theorem rdecode_any (A : Option Addr) (c : Nat) (l : List UInt8) (w : World) (hB : BAt w (.slice A l.length c) l) (hl : l.length ≤ 2000) (hbd : ∀ V, decF l = some V → V.bd) : Calls Tryd.prog 17 #[.slice A l.length c] w (Decoded w (decF l)) := by
  by_cases h : ∃ V, valR l.length 16 l = some (V, []) ∧ chkE V = 0
  · obtain ⟨V, h1, h2⟩ := h
    exact rdecode_accept A c l w hB hl hbd V h1 h2
  · exact rdecode_refuse (hide (rvalue_any 16 (Nat.le_refl _))) A c l w hB hl hbd fun V h1 h2 => h ⟨V, h1, h2⟩

/-- what is handed back, refused or not, is a value -/
def handV (r : Option Va) : Va := match r with
  | some V => V
  | none => .mk 0 0 ⟨#[]⟩ [] []
def handE (r : Option Va) : Int := match r with
  | some _ => 0
  | none => 20
theorem Decoded.form {w w' : World} {r : Option Va} {e : Ending} (h : Decoded w r e w') : ∃ v, e = .returned (.tuple #[v, .int .i64 (handE r)]) ∧ VNew w (handV r) v w' ∧ Below w.heap.size w w' := by
  obtain ⟨h1, h2⟩ := h
  cases r with
  | none => exact ⟨_, h1, VIn.flat ⟨by decide, by decide⟩ ⟨by decide, by decide⟩ (by decide), h2⟩
  | some V =>
    obtain ⟨v, e1, e2⟩ := h1
    exact ⟨v, e1, e2, h2⟩

set_option maxRecDepth 100000 in
set_option maxHeartbeats 8000000 in
theorem decodeSpec_any (bv : Value) (l : List UInt8) (w : World) (hr : BAt w bv l) (hE : Env w) (hw : gTop ≤ w.heap.size) :
    Calls Tryd.prog 4 #[bv] w (LawOk w) := by
  obtain ⟨A, c, rfl, _, _, _⟩ := hr.form
  have HE := hide hE; have HR := hide hr
  have hml0 : (0 : Int) ≤ (l.length : Int) := Int.natCast_nonneg _
  clear hE hr
  go_enter Tryd.func4, Tryd.ntmps4
  go_wp2_with fail
  refine (sane_any _ (unhide HE) hw).mono ?_
  rintro e w1 ⟨rfl, hb1⟩
  have HB1 := hide hb1
  by_cases hlen : (2000 : Int) < (l.length : Int)
  · clear hb1
    go_wp2_with fail
    go_ret
    exact ⟨rfl, unhide HB1⟩
  · have hb2000 : decide ((2000 : Int) < (l.length : Int)) = false := decide_eq_false hlen
    have HD := hide (decode_b ((unhide HR).later (unhide HB1)) (by omega) ((unhide HE).to hw (unhide HB1)) (Nat.le_trans hw (unhide HB1).size))
    clear hb1
    go_wp2_with fail
    refine (unhide HD).mono ?_
    rintro e w2 h2
    obtain ⟨v2, rfl, hv2, hb2⟩ := h2.form
    obtain ⟨k, n, s, B, m, c1, B', m', c1', rfl⟩ := VIn.form hv2
    have hbd : ∀ V, decF l = some V → V.bd := fun V h => by
      have := (VIn.at hv2).bd
      rw [h] at this
      exact this
    have HB2 := hide (thenB (unhide HB1) hb2); have HV2 := hide (VIn.at hv2)
    have HBD := hide hbd
    clear hv2 hb2 h2 hbd HD
    generalize hg : handE (decF l) = er
    have HG := hide hg
    clear hg
    go_wp2_with fail
    have HB3 := hide ((unhide HB2).alloc (unhide HB2).size (.cells #[.int .i64 k, .int .i64 n, .string s, .slice B m c1, .slice B' m' c1'] 25))
    have HX3 := hide (heap_alloc_new w2 (.cells #[.int .i64 k, .int .i64 n, .string s, .slice B m c1, .slice B' m' c1'] 25))
    have HV3 := hide ((unhide HV2).later ((Below.refl w2.heap.size w2).alloc (Nat.le_refl _) (.cells #[.int .i64 k, .int .i64 n, .string s, .slice B m c1, .slice B' m' c1'] 25)))
    refine (rdecode_any A c l _ ((unhide HR).later (unhide HB3)) (by omega) (unhide HBD)).mono ?_
    rintro e w4 h4
    obtain ⟨v4, rfl, hv4, hb4⟩ := h4.form
    obtain ⟨k2, n2, s2, C, o, d1, C', o', d1', rfl⟩ := VIn.form hv4
    rw [unhide HG]
    have HB4 := hide (thenB (unhide HB3) hb4)
    have HV4 := hide ((unhide HV3).later hb4)
    have HV5 := hide (VIn.at hv4)
    have HX4 := hide ((hb4.block w2.heap.size (by simp)).trans (unhide HX3))
    have hz4 : w2.heap.size < w4.heap.size := by have := hb4.size; simp at this; omega
    clear h4 hv4 hb4 HV2 HV3 HX3
    have f0 := (boxAt (unhide HX4) 0).1; have f1 := (boxAt (unhide HX4) 1).1; have f2 := (boxAt (unhide HX4) 2).1; have f3 := (boxAt (unhide HX4) 3).1; have f4 := (boxAt (unhide HX4) 4).1
    simp at f0 f1 f2 f3 f4
    have HB5 := hide ((Below.refl w4.heap.size w4).alloc (Nat.le_refl _) (.cells #[.int .i64 k2, .int .i64 n2, .string s2, .slice C o d1, .slice C' o' d1'] 25))
    have HSM := hide (rsame_any (handV (decF l)) (handV (decF l)) _ _ _ ((unhide HV4).later (unhide HB5)) ((unhide HV5).later (unhide HB5)))
    have hsm : (handV (decF l)).same (handV (decF l)) = true := (same_iff _ _).2 rfl
    rw [hsm] at HSM
    go_wp2_with fail
    refine (unhide HSM).mono ?_
    rintro e w5 ⟨rfl, hb5⟩
    have HB6 := hide (thenB ((unhide HB4).trans ((unhide HB5).mono (unhide HB4).size)) hb5)
    clear hb5 f0 f1 f2 f3 f4
    go_wp2_with fail
    go_ret
    exact ⟨rfl, unhide HB6⟩
end Go.Proofs.YtclpbjdnollfcaaDoor
