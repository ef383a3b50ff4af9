/- What each function of package word, and its twin in the reference, answers: the walks over the program's own text. -/
import Derived.Test.YtoppmigcoobjeaaRows
import Derived.Test.YtoppmigcoobjeaaWordMath
import Derived.Below
namespace Go.Proofs.Ytoppmigcoobjeaa
open Go.ChangeShapes Go.WideShapes Go.ChangeAt Go.RowKit
set_option linter.unusedSimpArgs false
set_option linter.unusedVariables false

theorem fits_w (n : Int) (w : World) :
    Calls Try.prog 11 #[.int .i64 n] w fun e w' => e = .returned (.bool (fitsV n)) ∧ w = w' := by
  go_enter Try.func11, Try.ntmps11
  go_wp2
  all_goals go_ret
  all_goals (refine ⟨?_, rfl⟩; simp [fitsV]; try omega)
theorem rfits_w (n : Int) (w : World) :
    Calls Try.prog 18 #[.int .i64 n] w fun e w' => e = .returned (.bool (fitsV n)) ∧ w = w' := by
  go_enter Try.func18, Try.ntmps18
  go_wp2
  all_goals go_ret
  · refine ⟨?_, rfl⟩
    simp only [fitsV]; simp; rw [Bool.eq_iff_iff]; simp; omega
  · refine ⟨?_, rfl⟩
    simp only [fitsV]; simp; intro _; omega
theorem pack_w (t n : Int) (ht0 : 0 ≤ t) (ht : t < 16) (w : World) :
    Calls Try.prog 25 #[.int .i64 t, .int .i64 n] w fun e w' => e = .returned (.int .u64 (packV t n)) ∧ w = w' := by
  have h := or_pack (n := n) ht0 ht
  go_enter Try.func25, Try.ntmps25
  go_wp2
  all_goals go_ret
  all_goals (refine ⟨?_, rfl⟩; simp [h])
theorem tag_w (x : Int) (hx : (Lit.int .u64 x).wf = true) (w : World) :
    Calls Try.prog 13 #[.int .u64 x] w fun e w' => e = .returned (.int .i64 (tagV x)) ∧ w = w' := by
  have h := and15 hx
  have h2 : wrap64 (x % 16) = x % 16 := by unfold wrap64; omega
  go_enter Try.func13, Try.ntmps13
  go_wp2
  all_goals go_ret
  all_goals (refine ⟨?_, rfl⟩; simp [h, h2, tagV])
theorem rtag_w (x : Int) (hx : (Lit.int .u64 x).wf = true) (w : World) :
    Calls Try.prog 16 #[.int .u64 x] w fun e w' => e = .returned (.int .i64 (tagV x)) ∧ w = w' := by
  have h := and15 hx
  have h2 : wrap64 (x % 16) = x % 16 := by unfold wrap64; omega
  go_enter Try.func16, Try.ntmps16
  go_wp2
  all_goals go_ret
  all_goals (refine ⟨?_, rfl⟩; simp [h, h2, tagV])
theorem val_w (x : Int) (w : World) :
    Calls Try.prog 14 #[.int .u64 x] w fun e w' => e = .returned (.int .i64 (valV x)) ∧ w = w' := by
  go_enter Try.func14, Try.ntmps14
  go_wp2
  all_goals go_ret
  all_goals (refine ⟨?_, rfl⟩; simp [valV])
theorem rval_w (x : Int) (w : World) :
    Calls Try.prog 17 #[.int .u64 x] w fun e w' => e = .returned (.int .i64 (valV x)) ∧ w = w' := by
  go_enter Try.func17, Try.ntmps17
  go_wp2
  all_goals go_ret
  all_goals (refine ⟨?_, rfl⟩; simp [valV])

theorem of_w (t n : Int) (w : World) :
    Calls Try.prog 10 #[.int .i64 t, .int .i64 n] w fun e w' => e = .returned (.int .u64 (ofV t n)) ∧ w = w' := by
  have p4 : packV 4 0 = 4 := by decide
  by_cases h1 : t < 0
  · have e : ofV t n = 4 := by unfold ofV; rw [if_neg (by omega)]
    rw [e]
    go_enter Try.func10, Try.ntmps10
    go_wp2_with (first | (go_at_call 25; refine (pack_w _ _ (by omega) (by omega) _).mono ?_; rintro e w1 ⟨rfl, rfl⟩))
    all_goals go_ret
    all_goals (refine ⟨?_, rfl⟩; simp [p4])
  by_cases h2 : 7 < t
  · have e : ofV t n = 4 := by unfold ofV; rw [if_neg (by omega)]
    rw [e]
    go_enter Try.func10, Try.ntmps10
    go_wp2_with (first | (go_at_call 25; refine (pack_w _ _ (by omega) (by omega) _).mono ?_; rintro e w1 ⟨rfl, rfl⟩))
    all_goals go_ret
    all_goals (refine ⟨?_, rfl⟩; simp [p4])
  cases h3 : fitsV n
  · have e : ofV t n = 4 := by unfold ofV; simp [h3]
    rw [e]
    go_enter Try.func10, Try.ntmps10
    go_wp2_with (first | (go_at_call 11; refine (fits_w _ _).mono ?_; rintro e w1 ⟨rfl, rfl⟩) | (go_at_call 25; refine (pack_w _ _ (by omega) (by omega) _).mono ?_; rintro e w1 ⟨rfl, rfl⟩))
    all_goals go_ret
    all_goals (refine ⟨?_, rfl⟩; simp [p4])
  · have e : ofV t n = packV t n := by unfold ofV; rw [if_pos ⟨by omega, h3⟩]
    rw [e]
    go_enter Try.func10, Try.ntmps10
    go_wp2_with (first | (go_at_call 11; refine (fits_w _ _).mono ?_; rintro e w1 ⟨rfl, rfl⟩) | (go_at_call 25; refine (pack_w _ _ (by omega) (by omega) _).mono ?_; rintro e w1 ⟨rfl, rfl⟩))
    all_goals go_ret
    all_goals (refine ⟨?_, rfl⟩; simp)
theorem rof_w (t n : Int) (w : World) :
    Calls Try.prog 15 #[.int .i64 t, .int .i64 n] w fun e w' => e = .returned (.int .u64 (ofV t n)) ∧ w = w' := by
  by_cases h1 : t < 0
  · have e : ofV t n = 4 := by unfold ofV; rw [if_neg (by omega)]
    rw [e]
    go_enter Try.func15, Try.ntmps15
    go_wp2
    all_goals go_ret
    all_goals (refine ⟨?_, rfl⟩; simp)
  by_cases h2 : 7 < t
  · have e : ofV t n = 4 := by unfold ofV; rw [if_neg (by omega)]
    rw [e]
    go_enter Try.func15, Try.ntmps15
    go_wp2
    all_goals go_ret
    all_goals (refine ⟨?_, rfl⟩; simp)
  have hp := or_pack (t := t) (n := n) (by omega) (by omega)
  cases h3 : fitsV n
  · have e : ofV t n = 4 := by unfold ofV; simp [h3]
    rw [e]
    go_enter Try.func15, Try.ntmps15
    go_wp2_with (first | (go_at_call 18; refine (rfits_w _ _).mono ?_; rintro e w1 ⟨rfl, rfl⟩))
    all_goals go_ret
    all_goals (refine ⟨?_, rfl⟩; simp)
  · have e : ofV t n = packV t n := by unfold ofV; rw [if_pos ⟨by omega, h3⟩]
    rw [e]
    go_enter Try.func15, Try.ntmps15
    go_wp2_with (first | (go_at_call 18; refine (rfits_w _ _).mono ?_; rintro e w1 ⟨rfl, rfl⟩))
    all_goals go_ret
    all_goals (refine ⟨?_, rfl⟩; simp [hp])

theorem awake_w (w : World) :
    Calls Try.prog 7 #[] w fun e w' => e = .returned (.bool true) ∧ w = w' := by
  have e1 : ofV 0 (-1) = 18446744073709551600 := by decide
  have e2 : tagV 18446744073709551600 = 0 := by decide
  have e3 : valV 18446744073709551600 = -1 := by decide +kernel
  have e4 : (Lit.int .u64 18446744073709551600).wf = true := by decide
  go_enter Try.func7, Try.ntmps7
  go_wp2_with (first | (go_at_call 10; refine (of_w _ _ _).mono ?_; rintro e w1 ⟨rfl, rfl⟩; rw [e1]) | (go_at_call 13; refine (tag_w _ e4 _).mono ?_; rintro e w1 ⟨rfl, rfl⟩) | (go_at_call 14; refine (val_w _ _).mono ?_; rintro e w1 ⟨rfl, rfl⟩))
  all_goals go_ret
  all_goals (refine ⟨?_, rfl⟩; simp)
theorem part_0_4 (x : Int) (hx : (Lit.int .u64 x).wf = true) (w : World) :
    Calls Try.prog 23 #[.int .u64 x, .int .u64 0, .int .u64 4] w fun e w' => e = .returned (.int .u64 (x % 16)) ∧ w = w' := by
  have hb := bdu64 hx
  have hm : bits .and .u64 (x) 15 = x % 16 := mask_u64 4 (by omega) (by omega) rfl (by omega)
  clear hb
  go_enter Try.func23, Try.ntmps23
  go_wp2
  all_goals go_ret
  all_goals (refine ⟨?_, rfl⟩; simp [hm])
theorem part_0_2 (x : Int) (hx : (Lit.int .u64 x).wf = true) (w : World) :
    Calls Try.prog 23 #[.int .u64 x, .int .u64 0, .int .u64 2] w fun e w' => e = .returned (.int .u64 (x % 4)) ∧ w = w' := by
  have hb := bdu64 hx
  have hm : bits .and .u64 (x) 3 = x % 4 := mask_u64 2 (by omega) (by omega) rfl (by omega)
  clear hb
  go_enter Try.func23, Try.ntmps23
  go_wp2
  all_goals go_ret
  all_goals (refine ⟨?_, rfl⟩; simp [hm])
theorem part_3_20 (x : Int) (hx : (Lit.int .u64 x).wf = true) (w : World) :
    Calls Try.prog 23 #[.int .u64 x, .int .u64 3, .int .u64 20] w fun e w' => e = .returned (.int .u64 (x / 8 % 1048576)) ∧ w = w' := by
  have hb := bdu64 hx
  have hm : bits .and .u64 (x / 8) 1048575 = x / 8 % 1048576 := mask_u64 20 (by omega) (by omega) rfl (by omega)
  clear hb
  go_enter Try.func23, Try.ntmps23
  go_wp2
  all_goals go_ret
  all_goals (refine ⟨?_, rfl⟩; simp [hm])
theorem part_23_20 (x : Int) (hx : (Lit.int .u64 x).wf = true) (w : World) :
    Calls Try.prog 23 #[.int .u64 x, .int .u64 23, .int .u64 20] w fun e w' => e = .returned (.int .u64 (x / 8388608 % 1048576)) ∧ w = w' := by
  have hb := bdu64 hx
  have hm : bits .and .u64 (x / 8388608) 1048575 = x / 8388608 % 1048576 := mask_u64 20 (by omega) (by omega) rfl (by omega)
  clear hb
  go_enter Try.func23, Try.ntmps23
  go_wp2
  all_goals go_ret
  all_goals (refine ⟨?_, rfl⟩; simp [hm])
theorem part_2_1 (x : Int) (hx : (Lit.int .u64 x).wf = true) (w : World) :
    Calls Try.prog 23 #[.int .u64 x, .int .u64 2, .int .u64 1] w fun e w' => e = .returned (.int .u64 (x / 4 % 2)) ∧ w = w' := by
  have hb := bdu64 hx
  have hm : bits .and .u64 (x / 4) 1 = x / 4 % 2 := mask_u64 1 (by omega) (by omega) rfl (by omega)
  clear hb
  go_enter Try.func23, Try.ntmps23
  go_wp2
  all_goals go_ret
  all_goals (refine ⟨?_, rfl⟩; simp [hm])
/-- the bits of a word from a place on -/
def partV (x s b : Int) : Int := x / 2 ^ s.toNat % 2 ^ b.toNat
theorem part_w (x s b : Int) (hx : (Lit.int .u64 x).wf = true) (h : (s = 0 ∧ b = 4) ∨ (s = 0 ∧ b = 2) ∨ (s = 3 ∧ b = 20) ∨ (s = 23 ∧ b = 20) ∨ (s = 2 ∧ b = 1)) (w : World) :
    Calls Try.prog 23 #[.int .u64 x, .int .u64 s, .int .u64 b] w fun e w' => e = .returned (.int .u64 (partV x s b)) ∧ w = w' := by
  rcases h with ⟨rfl, rfl⟩ | ⟨rfl, rfl⟩ | ⟨rfl, rfl⟩ | ⟨rfl, rfl⟩ | ⟨rfl, rfl⟩
  · have e : partV x 0 4 = x % 16 := by simp [partV]
    rw [e]; exact part_0_4 x hx w
  · have e : partV x 0 2 = x % 4 := by simp [partV]
    rw [e]; exact part_0_2 x hx w
  · have e : partV x 3 20 = x / 8 % 1048576 := by simp [partV]
    rw [e]; exact part_3_20 x hx w
  · have e : partV x 23 20 = x / 8388608 % 1048576 := by simp [partV]
    rw [e]; exact part_23_20 x hx w
  · have e : partV x 2 1 = x / 4 % 2 := by simp [partV]
    rw [e]; exact part_2_1 x hx w

theorem inbits_w (n : Int) (w : World) :
    Calls Try.prog 24 #[.int .i64 n, .int .u64 20] w fun e w' => e = .returned (.bool (decide (0 ≤ n ∧ n < 1048576))) ∧ w = w' := by
  by_cases h : 0 ≤ n
  · have e : decide (0 ≤ n ∧ n < 1048576) = decide (n < 1048576) := by simp [h]
    rw [e]
    go_enter Try.func24, Try.ntmps24
    go_wp2
    all_goals go_ret
    all_goals (refine ⟨?_, rfl⟩; simp)
  · have e : decide (0 ≤ n ∧ n < 1048576) = false := by simp [h]
    rw [e]
    go_enter Try.func24, Try.ntmps24
    go_wp2
    all_goals go_ret
    all_goals (refine ⟨?_, rfl⟩; simp)
end Go.Proofs.Ytoppmigcoobjeaa
