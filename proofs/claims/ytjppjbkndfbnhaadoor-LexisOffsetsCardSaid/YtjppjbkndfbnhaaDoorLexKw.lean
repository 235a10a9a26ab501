/- Contracts over the program of lexis: Keyword, and the reference's. (Written by wip/tools/gen_keyword.py.) -/
import Derived.Test.YtjppjbkndfbnhaaDoorLexB
namespace Go.Proofs.YtjppjbkndfbnhaaDoor
set_option linter.unusedSimpArgs false
set_option linter.unusedVariables false
open Go.RowKit

def kwL : List (List Lx.B) := [[114, 117, 108, 101, 115], [119, 105, 110], [100, 114, 97, 119], [108, 111, 115, 115], [111, 114, 100, 101, 114], [122, 111, 110, 101, 115], [116, 111], [105, 102], [101, 108, 115, 101], [97, 110, 100], [111, 114], [110, 111, 116], [116, 105, 101, 100], [114, 111, 117, 110, 100], [102, 105, 110, 105, 115, 104, 101, 100], [99, 108, 117, 98, 115], [112, 111, 105, 110, 116, 115], [100, 105, 102, 102, 101, 114, 101, 110, 99, 101], [103, 111, 97, 108, 115], [119, 105, 110, 115], [97, 119, 97, 121], [102, 97, 105, 114], [104, 101, 97, 100], [108, 111, 116, 115]]
def kwP (l : List Lx.B) : Bool := kwL.contains l
set_option maxRecDepth 100000 in
set_option maxHeartbeats 8000000 in
theorem kw_yes (s : ByteArray) (w : World) (h : L s ∈ kwL) : Calls Tryd.prog 19 #[.string s] w fun e w' => e = .returned (.bool true) ∧ w' = w := by
  unfold kwL at h
  simp only [List.mem_cons, List.not_mem_nil, or_false] at h
  rcases h with h | h | h | h | h | h | h | h | h | h | h | h | h | h | h | h | h | h | h | h | h | h | h | h
  · obtain rfl : s = ⟨#[114, 117, 108, 101, 115]⟩ := L_eq h
    clear h
    go_enter Tryd.func19, Tryd.ntmps19
    go_wp2_with fail
    go_ret
    exact ⟨rfl, rfl⟩
  · obtain rfl : s = ⟨#[119, 105, 110]⟩ := L_eq h
    clear h
    go_enter Tryd.func19, Tryd.ntmps19
    go_wp2_with fail
    go_ret
    exact ⟨rfl, rfl⟩
  · obtain rfl : s = ⟨#[100, 114, 97, 119]⟩ := L_eq h
    clear h
    go_enter Tryd.func19, Tryd.ntmps19
    go_wp2_with fail
    go_ret
    exact ⟨rfl, rfl⟩
  · obtain rfl : s = ⟨#[108, 111, 115, 115]⟩ := L_eq h
    clear h
    go_enter Tryd.func19, Tryd.ntmps19
    go_wp2_with fail
    go_ret
    exact ⟨rfl, rfl⟩
  · obtain rfl : s = ⟨#[111, 114, 100, 101, 114]⟩ := L_eq h
    clear h
    go_enter Tryd.func19, Tryd.ntmps19
    go_wp2_with fail
    go_ret
    exact ⟨rfl, rfl⟩
  · obtain rfl : s = ⟨#[122, 111, 110, 101, 115]⟩ := L_eq h
    clear h
    go_enter Tryd.func19, Tryd.ntmps19
    go_wp2_with fail
    go_ret
    exact ⟨rfl, rfl⟩
  · obtain rfl : s = ⟨#[116, 111]⟩ := L_eq h
    clear h
    go_enter Tryd.func19, Tryd.ntmps19
    go_wp2_with fail
    go_ret
    exact ⟨rfl, rfl⟩
  · obtain rfl : s = ⟨#[105, 102]⟩ := L_eq h
    clear h
    go_enter Tryd.func19, Tryd.ntmps19
    go_wp2_with fail
    go_ret
    exact ⟨rfl, rfl⟩
  · obtain rfl : s = ⟨#[101, 108, 115, 101]⟩ := L_eq h
    clear h
    go_enter Tryd.func19, Tryd.ntmps19
    go_wp2_with fail
    go_ret
    exact ⟨rfl, rfl⟩
  · obtain rfl : s = ⟨#[97, 110, 100]⟩ := L_eq h
    clear h
    go_enter Tryd.func19, Tryd.ntmps19
    go_wp2_with fail
    go_ret
    exact ⟨rfl, rfl⟩
  · obtain rfl : s = ⟨#[111, 114]⟩ := L_eq h
    clear h
    go_enter Tryd.func19, Tryd.ntmps19
    go_wp2_with fail
    go_ret
    exact ⟨rfl, rfl⟩
  · obtain rfl : s = ⟨#[110, 111, 116]⟩ := L_eq h
    clear h
    go_enter Tryd.func19, Tryd.ntmps19
    go_wp2_with fail
    go_ret
    exact ⟨rfl, rfl⟩
  · obtain rfl : s = ⟨#[116, 105, 101, 100]⟩ := L_eq h
    clear h
    go_enter Tryd.func19, Tryd.ntmps19
    go_wp2_with fail
    go_ret
    exact ⟨rfl, rfl⟩
  · obtain rfl : s = ⟨#[114, 111, 117, 110, 100]⟩ := L_eq h
    clear h
    go_enter Tryd.func19, Tryd.ntmps19
    go_wp2_with fail
    go_ret
    exact ⟨rfl, rfl⟩
  · obtain rfl : s = ⟨#[102, 105, 110, 105, 115, 104, 101, 100]⟩ := L_eq h
    clear h
    go_enter Tryd.func19, Tryd.ntmps19
    go_wp2_with fail
    go_ret
    exact ⟨rfl, rfl⟩
  · obtain rfl : s = ⟨#[99, 108, 117, 98, 115]⟩ := L_eq h
    clear h
    go_enter Tryd.func19, Tryd.ntmps19
    go_wp2_with fail
    go_ret
    exact ⟨rfl, rfl⟩
  · obtain rfl : s = ⟨#[112, 111, 105, 110, 116, 115]⟩ := L_eq h
    clear h
    go_enter Tryd.func19, Tryd.ntmps19
    go_wp2_with fail
    go_ret
    exact ⟨rfl, rfl⟩
  · obtain rfl : s = ⟨#[100, 105, 102, 102, 101, 114, 101, 110, 99, 101]⟩ := L_eq h
    clear h
    go_enter Tryd.func19, Tryd.ntmps19
    go_wp2_with fail
    go_ret
    exact ⟨rfl, rfl⟩
  · obtain rfl : s = ⟨#[103, 111, 97, 108, 115]⟩ := L_eq h
    clear h
    go_enter Tryd.func19, Tryd.ntmps19
    go_wp2_with fail
    go_ret
    exact ⟨rfl, rfl⟩
  · obtain rfl : s = ⟨#[119, 105, 110, 115]⟩ := L_eq h
    clear h
    go_enter Tryd.func19, Tryd.ntmps19
    go_wp2_with fail
    go_ret
    exact ⟨rfl, rfl⟩
  · obtain rfl : s = ⟨#[97, 119, 97, 121]⟩ := L_eq h
    clear h
    go_enter Tryd.func19, Tryd.ntmps19
    go_wp2_with fail
    go_ret
    exact ⟨rfl, rfl⟩
  · obtain rfl : s = ⟨#[102, 97, 105, 114]⟩ := L_eq h
    clear h
    go_enter Tryd.func19, Tryd.ntmps19
    go_wp2_with fail
    go_ret
    exact ⟨rfl, rfl⟩
  · obtain rfl : s = ⟨#[104, 101, 97, 100]⟩ := L_eq h
    clear h
    go_enter Tryd.func19, Tryd.ntmps19
    go_wp2_with fail
    go_ret
    exact ⟨rfl, rfl⟩
  · obtain rfl : s = ⟨#[108, 111, 116, 115]⟩ := L_eq h
    clear h
    go_enter Tryd.func19, Tryd.ntmps19
    go_wp2_with fail
    go_ret
    exact ⟨rfl, rfl⟩
set_option maxRecDepth 100000 in
set_option maxHeartbeats 8000000 in
theorem kw_no (s : ByteArray) (w : World) (h : L s ∉ kwL) : Calls Tryd.prog 19 #[.string s] w fun e w' => e = .returned (.bool false) ∧ w' = w := by
  unfold kwL at h
  simp only [List.mem_cons, List.not_mem_nil, or_false, not_or] at h
  obtain ⟨h0, h1, h2, h3, h4, h5, h6, h7, h8, h9, h10, h11, h12, h13, h14, h15, h16, h17, h18, h19, h20, h21, h22, h23⟩ := h
  have b0 := neB h0; have p0 := neP h0
  have b1 := neB h1; have p1 := neP h1
  have b2 := neB h2; have p2 := neP h2
  have b3 := neB h3; have p3 := neP h3
  have b4 := neB h4; have p4 := neP h4
  have b5 := neB h5; have p5 := neP h5
  have b6 := neB h6; have p6 := neP h6
  have b7 := neB h7; have p7 := neP h7
  have b8 := neB h8; have p8 := neP h8
  have b9 := neB h9; have p9 := neP h9
  have b10 := neB h10; have p10 := neP h10
  have b11 := neB h11; have p11 := neP h11
  have b12 := neB h12; have p12 := neP h12
  have b13 := neB h13; have p13 := neP h13
  have b14 := neB h14; have p14 := neP h14
  have b15 := neB h15; have p15 := neP h15
  have b16 := neB h16; have p16 := neP h16
  have b17 := neB h17; have p17 := neP h17
  have b18 := neB h18; have p18 := neP h18
  have b19 := neB h19; have p19 := neP h19
  have b20 := neB h20; have p20 := neP h20
  have b21 := neB h21; have p21 := neP h21
  have b22 := neB h22; have p22 := neP h22
  have b23 := neB h23; have p23 := neP h23
  clear h0 h1 h2 h3 h4 h5 h6 h7 h8 h9 h10 h11 h12 h13 h14 h15 h16 h17 h18 h19 h20 h21 h22 h23
  go_enter Tryd.func19, Tryd.ntmps19
  go_wp2_with fail
  go_ret
  exact ⟨rfl, rfl⟩
theorem kw_any (s : ByteArray) (w : World) : Calls Tryd.prog 19 #[.string s] w fun e w' => e = .returned (.bool (kwP (L s))) ∧ w' = w := by
  by_cases h : L s ∈ kwL
  · have e : kwP (L s) = true := by unfold kwP; exact List.contains_iff_mem.2 h
    rw [e]; exact kw_yes s w h
  · have e : kwP (L s) = false := by unfold kwP; rw [Bool.eq_false_iff]; exact fun e => h (List.contains_iff_mem.1 e)
    rw [e]; exact kw_no s w h
set_option maxRecDepth 100000 in
set_option maxHeartbeats 8000000 in
theorem rkw_yes (s : ByteArray) (w : World) (h : L s ∈ kwL) : Calls Tryd.prog 20 #[.string s] w fun e w' => e = .returned (.bool true) ∧ w' = w := by
  unfold kwL at h
  simp only [List.mem_cons, List.not_mem_nil, or_false] at h
  rcases h with h | h | h | h | h | h | h | h | h | h | h | h | h | h | h | h | h | h | h | h | h | h | h | h
  · obtain rfl : s = ⟨#[114, 117, 108, 101, 115]⟩ := L_eq h
    clear h
    go_enter Tryd.func20, Tryd.ntmps20
    go_wp2_with fail
    go_ret
    exact ⟨rfl, rfl⟩
  · obtain rfl : s = ⟨#[119, 105, 110]⟩ := L_eq h
    clear h
    go_enter Tryd.func20, Tryd.ntmps20
    go_wp2_with fail
    go_ret
    exact ⟨rfl, rfl⟩
  · obtain rfl : s = ⟨#[100, 114, 97, 119]⟩ := L_eq h
    clear h
    go_enter Tryd.func20, Tryd.ntmps20
    go_wp2_with fail
    go_ret
    exact ⟨rfl, rfl⟩
  · obtain rfl : s = ⟨#[108, 111, 115, 115]⟩ := L_eq h
    clear h
    go_enter Tryd.func20, Tryd.ntmps20
    go_wp2_with fail
    go_ret
    exact ⟨rfl, rfl⟩
  · obtain rfl : s = ⟨#[111, 114, 100, 101, 114]⟩ := L_eq h
    clear h
    go_enter Tryd.func20, Tryd.ntmps20
    go_wp2_with fail
    go_ret
    exact ⟨rfl, rfl⟩
  · obtain rfl : s = ⟨#[122, 111, 110, 101, 115]⟩ := L_eq h
    clear h
    go_enter Tryd.func20, Tryd.ntmps20
    go_wp2_with fail
    go_ret
    exact ⟨rfl, rfl⟩
  · obtain rfl : s = ⟨#[116, 111]⟩ := L_eq h
    clear h
    go_enter Tryd.func20, Tryd.ntmps20
    go_wp2_with fail
    go_ret
    exact ⟨rfl, rfl⟩
  · obtain rfl : s = ⟨#[105, 102]⟩ := L_eq h
    clear h
    go_enter Tryd.func20, Tryd.ntmps20
    go_wp2_with fail
    go_ret
    exact ⟨rfl, rfl⟩
  · obtain rfl : s = ⟨#[101, 108, 115, 101]⟩ := L_eq h
    clear h
    go_enter Tryd.func20, Tryd.ntmps20
    go_wp2_with fail
    go_ret
    exact ⟨rfl, rfl⟩
  · obtain rfl : s = ⟨#[97, 110, 100]⟩ := L_eq h
    clear h
    go_enter Tryd.func20, Tryd.ntmps20
    go_wp2_with fail
    go_ret
    exact ⟨rfl, rfl⟩
  · obtain rfl : s = ⟨#[111, 114]⟩ := L_eq h
    clear h
    go_enter Tryd.func20, Tryd.ntmps20
    go_wp2_with fail
    go_ret
    exact ⟨rfl, rfl⟩
  · obtain rfl : s = ⟨#[110, 111, 116]⟩ := L_eq h
    clear h
    go_enter Tryd.func20, Tryd.ntmps20
    go_wp2_with fail
    go_ret
    exact ⟨rfl, rfl⟩
  · obtain rfl : s = ⟨#[116, 105, 101, 100]⟩ := L_eq h
    clear h
    go_enter Tryd.func20, Tryd.ntmps20
    go_wp2_with fail
    go_ret
    exact ⟨rfl, rfl⟩
  · obtain rfl : s = ⟨#[114, 111, 117, 110, 100]⟩ := L_eq h
    clear h
    go_enter Tryd.func20, Tryd.ntmps20
    go_wp2_with fail
    go_ret
    exact ⟨rfl, rfl⟩
  · obtain rfl : s = ⟨#[102, 105, 110, 105, 115, 104, 101, 100]⟩ := L_eq h
    clear h
    go_enter Tryd.func20, Tryd.ntmps20
    go_wp2_with fail
    go_ret
    exact ⟨rfl, rfl⟩
  · obtain rfl : s = ⟨#[99, 108, 117, 98, 115]⟩ := L_eq h
    clear h
    go_enter Tryd.func20, Tryd.ntmps20
    go_wp2_with fail
    go_ret
    exact ⟨rfl, rfl⟩
  · obtain rfl : s = ⟨#[112, 111, 105, 110, 116, 115]⟩ := L_eq h
    clear h
    go_enter Tryd.func20, Tryd.ntmps20
    go_wp2_with fail
    go_ret
    exact ⟨rfl, rfl⟩
  · obtain rfl : s = ⟨#[100, 105, 102, 102, 101, 114, 101, 110, 99, 101]⟩ := L_eq h
    clear h
    go_enter Tryd.func20, Tryd.ntmps20
    go_wp2_with fail
    go_ret
    exact ⟨rfl, rfl⟩
  · obtain rfl : s = ⟨#[103, 111, 97, 108, 115]⟩ := L_eq h
    clear h
    go_enter Tryd.func20, Tryd.ntmps20
    go_wp2_with fail
    go_ret
    exact ⟨rfl, rfl⟩
  · obtain rfl : s = ⟨#[119, 105, 110, 115]⟩ := L_eq h
    clear h
    go_enter Tryd.func20, Tryd.ntmps20
    go_wp2_with fail
    go_ret
    exact ⟨rfl, rfl⟩
  · obtain rfl : s = ⟨#[97, 119, 97, 121]⟩ := L_eq h
    clear h
    go_enter Tryd.func20, Tryd.ntmps20
    go_wp2_with fail
    go_ret
    exact ⟨rfl, rfl⟩
  · obtain rfl : s = ⟨#[102, 97, 105, 114]⟩ := L_eq h
    clear h
    go_enter Tryd.func20, Tryd.ntmps20
    go_wp2_with fail
    go_ret
    exact ⟨rfl, rfl⟩
  · obtain rfl : s = ⟨#[104, 101, 97, 100]⟩ := L_eq h
    clear h
    go_enter Tryd.func20, Tryd.ntmps20
    go_wp2_with fail
    go_ret
    exact ⟨rfl, rfl⟩
  · obtain rfl : s = ⟨#[108, 111, 116, 115]⟩ := L_eq h
    clear h
    go_enter Tryd.func20, Tryd.ntmps20
    go_wp2_with fail
    go_ret
    exact ⟨rfl, rfl⟩
set_option maxRecDepth 100000 in
set_option maxHeartbeats 8000000 in
theorem rkw_no (s : ByteArray) (w : World) (h : L s ∉ kwL) : Calls Tryd.prog 20 #[.string s] w fun e w' => e = .returned (.bool false) ∧ w' = w := by
  unfold kwL at h
  simp only [List.mem_cons, List.not_mem_nil, or_false, not_or] at h
  obtain ⟨h0, h1, h2, h3, h4, h5, h6, h7, h8, h9, h10, h11, h12, h13, h14, h15, h16, h17, h18, h19, h20, h21, h22, h23⟩ := h
  have b0 := neB h0; have p0 := neP h0
  have b1 := neB h1; have p1 := neP h1
  have b2 := neB h2; have p2 := neP h2
  have b3 := neB h3; have p3 := neP h3
  have b4 := neB h4; have p4 := neP h4
  have b5 := neB h5; have p5 := neP h5
  have b6 := neB h6; have p6 := neP h6
  have b7 := neB h7; have p7 := neP h7
  have b8 := neB h8; have p8 := neP h8
  have b9 := neB h9; have p9 := neP h9
  have b10 := neB h10; have p10 := neP h10
  have b11 := neB h11; have p11 := neP h11
  have b12 := neB h12; have p12 := neP h12
  have b13 := neB h13; have p13 := neP h13
  have b14 := neB h14; have p14 := neP h14
  have b15 := neB h15; have p15 := neP h15
  have b16 := neB h16; have p16 := neP h16
  have b17 := neB h17; have p17 := neP h17
  have b18 := neB h18; have p18 := neP h18
  have b19 := neB h19; have p19 := neP h19
  have b20 := neB h20; have p20 := neP h20
  have b21 := neB h21; have p21 := neP h21
  have b22 := neB h22; have p22 := neP h22
  have b23 := neB h23; have p23 := neP h23
  clear h0 h1 h2 h3 h4 h5 h6 h7 h8 h9 h10 h11 h12 h13 h14 h15 h16 h17 h18 h19 h20 h21 h22 h23
  go_enter Tryd.func20, Tryd.ntmps20
  go_wp2_with fail
  go_ret
  exact ⟨rfl, rfl⟩
theorem rkw_any (s : ByteArray) (w : World) : Calls Tryd.prog 20 #[.string s] w fun e w' => e = .returned (.bool (kwP (L s))) ∧ w' = w := by
  by_cases h : L s ∈ kwL
  · have e : kwP (L s) = true := by unfold kwP; exact List.contains_iff_mem.2 h
    rw [e]; exact rkw_yes s w h
  · have e : kwP (L s) = false := by unfold kwP; rw [Bool.eq_false_iff]; exact fun e => h (List.contains_iff_mem.1 e)
    rw [e]; exact rkw_no s w h
end Go.Proofs.YtjppjbkndfbnhaaDoor
