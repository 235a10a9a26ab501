/- What sane asks of the codec: Encode and Decode of the chapter's examples, as functions. -/
import Derived.Test.YtclpbjdnollfcaaDoorCodGlue
namespace Go.Proofs.YtclpbjdnollfcaaDoor
set_option linter.unusedSimpArgs false
set_option linter.unusedVariables false
open Go.RowKit

theorem itoa_one {n : Nat} (h : n < 10) : Lib.itoa (n : Int) = [UInt8.ofNat (48 + n)] := by
  unfold Lib.itoa
  rw [if_neg (by omega)]
  exact Lib.decDigits_one (by omega)
theorem numP_no {stop : UInt8} {ds rest : List UInt8} {v : Int} (hs : ∀ b ∈ ds, b ≠ stop) (ha : Lib.atoiAll ds = .ok v) (hne : Lib.itoa v ≠ ds) : numP stop (ds ++ stop :: rest) = none := by
  have e1 : (ds ++ stop :: rest).take ds.length = ds := List.take_left' rfl
  unfold numP
  rw [index_skip _ _ _ hs, if_neg (by omega)]
  simp only [Int.toNat_natCast, e1, ha, if_neg hne]
theorem numP_yes {stop : UInt8} {n : Nat} (h : n < 10) (hs : UInt8.ofNat (48 + n) ≠ stop) (rest : List UInt8) : numP stop (UInt8.ofNat (48 + n) :: stop :: rest) = some ((n : Int), rest) := by
  have := numP_itoa stop (n : Int) rest ⟨by omega, by omega⟩ (by rw [itoa_one h]; simpa using hs)
  rw [itoa_one h] at this
  exact this

def bA : ByteArray := ⟨#[97]⟩
def bB : ByteArray := ⟨#[98]⟩
def bAB : ByteArray := ⟨#[97, 98]⟩
def one1 : Va := .mk 1 1 ⟨#[]⟩ [] []
def vaL : Va := .mk 3 0 ⟨#[]⟩ [.mk 1 (-3) ⟨#[]⟩ [] [], .mk 2 0 bAB [] []] []
def vaD : Va := .mk 4 0 ⟨#[]⟩ [one1] [bA]
theorem itoa_m3 : Lib.itoa (-3) = [45, 51] := by
  unfold Lib.itoa
  rw [if_pos (by decide)]
  exact congrArg _ (Lib.decDigits_one (i := 3) (by decide))
theorem chkL : chkE vaL = 0 := by decide +kernel
theorem encL_vaL : vaL.enc = [108, 105, 45, 51, 101, 50, 58, 97, 98, 101] := by
  have h2 := itoa_one (n := 2) (by decide)
  simp only [vaL, Va.enc, encL, encT, itoa_m3]
  have hs : (bAB.size : Int) = ((2 : Nat) : Int) := rfl
  rw [hs, h2]
  rfl
theorem chkD : chkE vaD = 0 := by decide +kernel
theorem bdD : vaD.bd := by
  simp only [vaD, one1, Va.bd, bdAll]
  refine ⟨⟨by decide, by decide⟩, by decide, ⟨⟨⟨by decide, by decide⟩, by decide, trivial, fun i q h => by simp at h⟩, trivial⟩, fun i q h => ?_⟩
  cases i with
  | zero => simp at h; subst h; decide
  | succ i => simp at h
theorem one1_enc : one1.enc = [105, 49, 101] := by
  have h := itoa_one (n := 1) (by decide)
  simp only [one1, Va.enc]
  have hs : (1 : Int) = ((1 : Nat) : Int) := rfl
  rw [if_pos trivial, hs, h]
  rfl
theorem encT_one {b : UInt8} : encT ⟨#[b]⟩ = [49, 58, b] := by
  have h := itoa_one (n := 1) (by decide)
  have hs : (((⟨#[b]⟩ : ByteArray).size : Nat) : Int) = ((1 : Nat) : Int) := rfl
  unfold encT
  rw [hs, h]
  rfl
theorem enc_vaD : vaD.enc = [100, 49, 58, 97, 105, 49, 101, 101] := by
  simp only [vaD, Va.enc, encD, bA, encT_one, one1_enc]
  rfl
theorem decD : decF [100, 49, 58, 97, 105, 49, 101, 101] = some vaD := by rw [← enc_vaD]; exact decF_enc chkD bdD
theorem getA : getF vaD bA = some one1 := by
  have : Lib.idxOfS [bA] bA = 0 := by simp [Lib.idxOfS, Lib.idxFromS]
  simp only [vaD, getF, this]
  rfl
theorem getB : getF vaD bB = none := by
  have : Lib.idxOfS [bA] bB = -1 := by decide +kernel
  simp only [vaD, getF, this]
  rfl
theorem sameDD : vaD.same vaD = true := (same_iff _ _).2 rfl
theorem sameDO : vaD.same one1 = false := by decide +kernel
theorem chkZ : chkE zeroVa = 1 := by decide +kernel

theorem valP16 : valP 16 = valF (some (valP 15)) := rfl
theorem valP15 : valP 15 = valF (some (valP 14)) := rfl
theorem dec1 : decF [105, 45, 48, 101] = none := by
  have h := numP_no (stop := 101) (ds := [45, 48]) (rest := []) (v := 0) (by decide) (by decide) (by have := itoa_one (n := 0) (by decide); intro e; rw [show (0 : Int) = ((0 : Nat) : Int) from rfl, this] at e; simp at e)
  simp only [List.cons_append, List.nil_append] at h
  unfold decF
  rw [valP16]
  simp only [valF]
  rw [if_pos (by decide), h]
  rfl
theorem dec2 : decF [105, 48, 51, 101] = none := by
  have h := numP_no (stop := 101) (ds := [48, 51]) (rest := []) (v := 3) (by decide) (by decide) (by have := itoa_one (n := 3) (by decide); intro e; rw [show (3 : Int) = ((3 : Nat) : Int) from rfl, this] at e; simp at e)
  simp only [List.cons_append, List.nil_append] at h
  unfold decF
  rw [valP16]
  simp only [valF]
  rw [if_pos (by decide), h]
  rfl
theorem dec3 : decF [48, 49, 58, 97] = none := by
  have h := numP_no (stop := 58) (ds := [48, 49]) (rest := [97]) (v := 1) (by decide) (by decide) (by have := itoa_one (n := 1) (by decide); intro e; rw [show (1 : Int) = ((1 : Nat) : Int) from rfl, this] at e; simp at e)
  simp only [List.cons_append, List.nil_append] at h
  unfold decF
  rw [valP16]
  simp only [valF, textP]
  rw [if_neg (by decide), if_neg (by decide), if_neg (by decide), h]
  rfl
theorem dec4 : decF [100, 49, 58, 98, 105, 49, 101, 49, 58, 97, 105, 50, 101, 101] = none := by
  have t1 := textP_encT bB [105, 49, 101, 49, 58, 97, 105, 50, 101, 101] (by decide)
  have t2 := textP_encT bA [105, 50, 101, 101] (by decide)
  have hv := valP_forw 10 15 one1 (by decide) (by decide +kernel) (by simp only [one1, Va.bd, bdAll]; exact ⟨⟨by decide, by decide⟩, by decide, trivial, fun i q h => by simp at h⟩) (by decide) [49, 58, 97, 105, 50, 101, 101]
  rw [one1_enc] at hv
  simp only [bB, bA, encT_one, List.cons_append, List.nil_append] at t1 t2 hv
  unfold decF
  rw [valP16]
  simp only [valF]
  rw [if_neg (by decide), if_neg (by decide), if_pos (by decide)]
  simp only [List.length_cons, List.length_nil, pairsP]
  rw [if_neg (by decide), t1]
  simp only [keyOk, List.getLast?_nil, if_true, hv, List.nil_append]
  simp only [pairsP]
  rw [if_neg (by decide), t2]
  have hk : keyOk [⟨#[98]⟩] ⟨#[97]⟩ = false := by decide +kernel
  simp [hk]
theorem dec5 : decF [105, 51, 101, 32] = none := by
  have h := numP_yes (stop := 101) (n := 3) (by decide) (by decide) [32]
  have e : (UInt8.ofNat (48 + 3)) = 51 := rfl
  rw [e] at h
  unfold decF
  rw [valP16]
  simp only [valF]
  rw [if_pos (by decide), h]
  rfl
theorem dec6 : decF [] = none := rfl
end Go.Proofs.YtclpbjdnollfcaaDoor
