/- What each function of package word, and its twin in the reference, answers: the walks over the program's own text. -/
import Derived.Test.YtdabigekdnibhaaRows
import Derived.Test.YtdabigekdnibhaaWordMath
import Derived.Below
namespace Go.Proofs.Ytdabigekdnibhaa
open Go.ChangeShapes Go.WideShapes Go.ChangeAt Go.RowKit
set_option linter.unusedSimpArgs false
set_option linter.unusedVariables false
set_option maxRecDepth 2000

theorem rfits_w (n : Int) (w : World) :
    Calls Try.prog 34 #[.int .i64 n] w fun e w' => e = .returned (.bool (fitsV n)) ∧ w = w' := by
  go_enter Try.func34, Try.ntmps34
  go_wp2
  all_goals go_ret
  · refine ⟨?_, rfl⟩
    simp only [fitsV]; simp; rw [Bool.eq_iff_iff]; simp; omega
  · refine ⟨?_, rfl⟩
    simp only [fitsV]; simp; intro _; omega
theorem tag_w (x : Int) (hx : (Lit.int .u64 x).wf = true) (w : World) :
    Calls Try.prog 35 #[.int .u64 x] w fun e w' => e = .returned (.int .i64 (tagV x)) ∧ w = w' := by
  have h := and15 hx
  have h2 : wrap64 (x % 16) = x % 16 := by unfold wrap64; omega
  go_enter Try.func35, Try.ntmps35
  go_wp2
  all_goals go_ret
  all_goals (refine ⟨?_, rfl⟩; simp [h, h2, tagV])
theorem rtag_w (x : Int) (hx : (Lit.int .u64 x).wf = true) (w : World) :
    Calls Try.prog 38 #[.int .u64 x] w fun e w' => e = .returned (.int .i64 (tagV x)) ∧ w = w' := by
  have h := and15 hx
  have h2 : wrap64 (x % 16) = x % 16 := by unfold wrap64; omega
  go_enter Try.func38, Try.ntmps38
  go_wp2
  all_goals go_ret
  all_goals (refine ⟨?_, rfl⟩; simp [h, h2, tagV])
theorem rval_w (x : Int) (w : World) :
    Calls Try.prog 37 #[.int .u64 x] w fun e w' => e = .returned (.int .i64 (valV x)) ∧ w = w' := by
  go_enter Try.func37, Try.ntmps37
  go_wp2
  all_goals go_ret
  all_goals (refine ⟨?_, rfl⟩; simp [valV])

theorem rof_w (t n : Int) (w : World) :
    Calls Try.prog 29 #[.int .i64 t, .int .i64 n] w fun e w' => e = .returned (.int .u64 (ofV t n)) ∧ w = w' := by
  by_cases h1 : t < 0
  · have e : ofV t n = 4 := by unfold ofV; rw [if_neg (by omega)]
    rw [e]
    go_enter Try.func29, Try.ntmps29
    go_wp2
    all_goals go_ret
    all_goals (refine ⟨?_, rfl⟩; simp)
  by_cases h2 : 7 < t
  · have e : ofV t n = 4 := by unfold ofV; rw [if_neg (by omega)]
    rw [e]
    go_enter Try.func29, Try.ntmps29
    go_wp2
    all_goals go_ret
    all_goals (refine ⟨?_, rfl⟩; simp)
  have hp := or_pack (t := t) (n := n) (by omega) (by omega)
  cases h3 : fitsV n
  · have e : ofV t n = 4 := by unfold ofV; simp [h3]
    rw [e]
    go_enter Try.func29, Try.ntmps29
    go_wp2_with (first | (go_at_call 34; refine (rfits_w _ _).mono ?_; rintro e w1 ⟨rfl, rfl⟩))
    all_goals go_ret
    all_goals (refine ⟨?_, rfl⟩; simp)
  · have e : ofV t n = packV t n := by unfold ofV; rw [if_pos ⟨by omega, h3⟩]
    rw [e]
    go_enter Try.func29, Try.ntmps29
    go_wp2_with (first | (go_at_call 34; refine (rfits_w _ _).mono ?_; rintro e w1 ⟨rfl, rfl⟩))
    all_goals go_ret
    all_goals (refine ⟨?_, rfl⟩; simp [hp])

theorem part_0_4 (x : Int) (hx : (Lit.int .u64 x).wf = true) (w : World) :
    Calls Try.prog 36 #[.int .u64 x, .int .u64 0, .int .u64 4] w fun e w' => e = .returned (.int .u64 (x % 16)) ∧ w = w' := by
  have hb := bdu64 hx
  have hm : bits .and .u64 (x) 15 = x % 16 := mask_u64 4 (by omega) (by omega) rfl (by omega)
  clear hb
  go_enter Try.func36, Try.ntmps36
  go_wp2
  all_goals go_ret
  all_goals (refine ⟨?_, rfl⟩; simp [hm])
theorem part_0_2 (x : Int) (hx : (Lit.int .u64 x).wf = true) (w : World) :
    Calls Try.prog 36 #[.int .u64 x, .int .u64 0, .int .u64 2] w fun e w' => e = .returned (.int .u64 (x % 4)) ∧ w = w' := by
  have hb := bdu64 hx
  have hm : bits .and .u64 (x) 3 = x % 4 := mask_u64 2 (by omega) (by omega) rfl (by omega)
  clear hb
  go_enter Try.func36, Try.ntmps36
  go_wp2
  all_goals go_ret
  all_goals (refine ⟨?_, rfl⟩; simp [hm])
theorem part_3_20 (x : Int) (hx : (Lit.int .u64 x).wf = true) (w : World) :
    Calls Try.prog 36 #[.int .u64 x, .int .u64 3, .int .u64 20] w fun e w' => e = .returned (.int .u64 (x / 8 % 1048576)) ∧ w = w' := by
  have hb := bdu64 hx
  have hm : bits .and .u64 (x / 8) 1048575 = x / 8 % 1048576 := mask_u64 20 (by omega) (by omega) rfl (by omega)
  clear hb
  go_enter Try.func36, Try.ntmps36
  go_wp2
  all_goals go_ret
  all_goals (refine ⟨?_, rfl⟩; simp [hm])
theorem part_23_20 (x : Int) (hx : (Lit.int .u64 x).wf = true) (w : World) :
    Calls Try.prog 36 #[.int .u64 x, .int .u64 23, .int .u64 20] w fun e w' => e = .returned (.int .u64 (x / 8388608 % 1048576)) ∧ w = w' := by
  have hb := bdu64 hx
  have hm : bits .and .u64 (x / 8388608) 1048575 = x / 8388608 % 1048576 := mask_u64 20 (by omega) (by omega) rfl (by omega)
  clear hb
  go_enter Try.func36, Try.ntmps36
  go_wp2
  all_goals go_ret
  all_goals (refine ⟨?_, rfl⟩; simp [hm])
theorem part_2_1 (x : Int) (hx : (Lit.int .u64 x).wf = true) (w : World) :
    Calls Try.prog 36 #[.int .u64 x, .int .u64 2, .int .u64 1] w fun e w' => e = .returned (.int .u64 (x / 4 % 2)) ∧ w = w' := by
  have hb := bdu64 hx
  have hm : bits .and .u64 (x / 4) 1 = x / 4 % 2 := mask_u64 1 (by omega) (by omega) rfl (by omega)
  clear hb
  go_enter Try.func36, Try.ntmps36
  go_wp2
  all_goals go_ret
  all_goals (refine ⟨?_, rfl⟩; simp [hm])
/-- the bits of a word from a place on -/
def partV (x s b : Int) : Int := x / 2 ^ s.toNat % 2 ^ b.toNat
theorem part_w (x s b : Int) (hx : (Lit.int .u64 x).wf = true) (h : (s = 0 ∧ b = 4) ∨ (s = 0 ∧ b = 2) ∨ (s = 3 ∧ b = 20) ∨ (s = 23 ∧ b = 20) ∨ (s = 2 ∧ b = 1)) (w : World) :
    Calls Try.prog 36 #[.int .u64 x, .int .u64 s, .int .u64 b] w fun e w' => e = .returned (.int .u64 (partV x s b)) ∧ w = w' := by
  rcases h with ⟨rfl, rfl⟩ | ⟨rfl, rfl⟩ | ⟨rfl, rfl⟩ | ⟨rfl, rfl⟩ | ⟨rfl, rfl⟩
  · have e : partV x 0 4 = x % 16 := by simp [partV]
    rw [e]; exact part_0_4 x hx w
  · have e : partV x 0 2 = x % 4 := by simp [partV]
    rw [e]; exact part_0_2 x hx w
  · have e : partV x 3 20 = x / 8 % 1048576 := by simp [partV]
    rw [e]; exact part_3_20 x hx w
  · have e : partV x 23 20 = x / 8388608 % 1048576 := by simp [partV]
    rw [e]; exact part_23_20 x hx w
  · have e : partV x 2 1 = x / 4 % 2 := by simp [partV]
    rw [e]; exact part_2_1 x hx w

end Go.Proofs.Ytdabigekdnibhaa
