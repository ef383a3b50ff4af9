/- What word.Make, word.Read, word.Fields and their twins in the reference answer. -/
import Derived.Test.YtdabigekdnibhaaWordWalks
namespace Go.Proofs.Ytdabigekdnibhaa
open Go.ChangeShapes Go.WideShapes Go.ChangeAt Go.RowKit
set_option linter.unusedSimpArgs false
set_option linter.unusedVariables false
set_option maxRecDepth 2000

/-- a header as the machine holds it -/
def hdr (k s t : Int) (b : Bool) : Value := .agg #[.int .i64 k, .int .i64 s, .int .i64 t, .bool b]

theorem rmake_w (k s t : Int) (b : Bool) (w : World) :
    Calls Try.prog 11 #[.agg #[.int .i64 k, .int .i64 s, .int .i64 t, .bool b]] w fun e w' => e = .returned (.int .u64 (makeV k s t b)) ∧ w' = w.alloc (.cells #[.int .i64 k, .int .i64 s, .int .i64 t, .bool b] 33) := by
  cases hm : mayV k s t
  · rw [make_not hm]
    have hn : ¬ ((0 ≤ k ∧ k ≤ 3) ∧ (0 ≤ s ∧ s < 1048576) ∧ (0 ≤ t ∧ t < 1048576)) := by rw [← may_iff, hm]; simp
    by_cases h1 : k < 0
    · clear hn
      go_enter Try.func11, Try.ntmps11
      go_wp2_with (first | (go_at_call 29; refine (rof_w _ _ _).mono ?_; rintro e w1 ⟨rfl, rfl⟩))
      all_goals go_ret
      all_goals (refine ⟨?_, rfl⟩; simp)
    by_cases h2 : 3 < k
    · clear hn
      go_enter Try.func11, Try.ntmps11
      go_wp2_with (first | (go_at_call 29; refine (rof_w _ _ _).mono ?_; rintro e w1 ⟨rfl, rfl⟩))
      all_goals go_ret
      all_goals (refine ⟨?_, rfl⟩; simp)
    by_cases h3 : s < 0
    · clear hn
      go_enter Try.func11, Try.ntmps11
      go_wp2_with (first | (go_at_call 29; refine (rof_w _ _ _).mono ?_; rintro e w1 ⟨rfl, rfl⟩))
      all_goals go_ret
      all_goals (refine ⟨?_, rfl⟩; simp)
    by_cases h4 : 1048576 ≤ s
    · clear hn
      go_enter Try.func11, Try.ntmps11
      go_wp2_with (first | (go_at_call 29; refine (rof_w _ _ _).mono ?_; rintro e w1 ⟨rfl, rfl⟩))
      all_goals go_ret
      all_goals (refine ⟨?_, rfl⟩; simp)
    by_cases h5 : t < 0
    · clear hn
      go_enter Try.func11, Try.ntmps11
      go_wp2_with (first | (go_at_call 29; refine (rof_w _ _ _).mono ?_; rintro e w1 ⟨rfl, rfl⟩))
      all_goals go_ret
      all_goals (refine ⟨?_, rfl⟩; simp)
    by_cases h6 : 1048576 ≤ t
    · clear hn
      go_enter Try.func11, Try.ntmps11
      go_wp2_with (first | (go_at_call 29; refine (rof_w _ _ _).mono ?_; rintro e w1 ⟨rfl, rfl⟩))
      all_goals go_ret
      all_goals (refine ⟨?_, rfl⟩; simp)
    omega
  · rw [make_of hm]
    have hh := (may_iff k s t).1 hm
    have ho := or_head hm
    have h4 := head_at rfl hm
    obtain ⟨⟨k1, k2⟩, ⟨s1, s2⟩, ⟨t1, t2⟩⟩ := hh
    cases b
    · have e : headV k s t false = k + s * 8 + t * 8388608 := by simp [headV]
      have f : ofV 6 (k + s * 8 + t * 8388608) = packV 6 (k + s * 8 + t * 8388608) := by
        unfold ofV; rw [if_pos ⟨by omega, (fits_iff _).2 (by omega)⟩]
      rw [e]
      go_enter Try.func11, Try.ntmps11
      go_wp2_with (first | (go_at_call 29; refine (rof_w _ _ _).mono ?_; rintro e w1 ⟨rfl, rfl⟩))
      all_goals go_ret
      all_goals (refine ⟨?_, rfl⟩; simp [ho, f])
    · have e : headV k s t true = k + s * 8 + t * 8388608 + 4 := by simp [headV]; omega
      have f : ofV 6 (k + s * 8 + t * 8388608 + 4) = packV 6 (k + s * 8 + t * 8388608 + 4) := by
        unfold ofV; rw [if_pos ⟨by omega, (fits_iff _).2 (by omega)⟩]
      rw [e]
      go_enter Try.func11, Try.ntmps11
      go_wp2_with (first | (go_at_call 29; refine (rof_w _ _ _).mono ?_; rintro e w1 ⟨rfl, rfl⟩))
      all_goals go_ret
      all_goals (refine ⟨?_, rfl⟩; simp [ho, h4, f])

theorem read_w (x : Int) (hx : (Lit.int .u64 x).wf = true) (w : World) :
    Calls Try.prog 30 #[.int .u64 x] w fun e w' => e = .returned (.tuple #[.agg #[.int .i64 (rk x), .int .i64 (rs x), .int .i64 (rt x), .bool (rb x)], .bool (isV x)]) ∧ w' = w.alloc (.cells #[.int .i64 (rk x), .int .i64 (rs x), .int .i64 (rt x), .bool (rb x)] 62) := by
  have hb := bdu64 hx
  have hy : (Lit.int .u64 (x / 16)).wf = true := wf_u64 (by omega) (by omega)
  cases hi : isV x
  · have e0 : rk x = 0 := by simp [rk, hi]
    have e1 : rs x = 0 := by simp [rs, hi]
    have e2 : rt x = 0 := by simp [rt, hi]
    have e3 : rb x = false := by simp [rb, hi]
    rw [e0, e1, e2, e3]
    by_cases h1 : x % 16 = 6
    · have h2 : ¬ x / 16 < 8796093022208 := by
        intro h; have := (is_iff x).2 ⟨h1, h⟩; simp [this] at hi
      have t1 : tagV x = 6 := h1
      have t2 : (x / 16 / 8796093022208 != 0) = true := by simp; omega
      clear h1 h2 hb
      go_enter Try.func30, Try.ntmps30
      go_wp2_with (first
              | (go_at_call 35; refine (tag_w _ (by assumption) _).mono ?_; rintro e w1 ⟨rfl, rfl⟩)
              | (go_at_call 36; refine (part_w _ _ _ (by assumption) (by decide) _).mono ?_; rintro e w1 ⟨rfl, rfl⟩))
      all_goals exact bodyPost_ret (v := .tuple #[.agg #[.int .i64 0, .int .i64 0, .int .i64 0, .bool false], .bool false]) (by simp [results, Try.results30, go_sem]) rfl ⟨rfl, rfl⟩
    · have t1 : (tagV x != 6) = true := by simpa [tagV] using h1
      clear h1 hb
      go_enter Try.func30, Try.ntmps30
      go_wp2_with (first
              | (go_at_call 35; refine (tag_w _ (by assumption) _).mono ?_; rintro e w1 ⟨rfl, rfl⟩)
              | (go_at_call 36; refine (part_w _ _ _ (by assumption) (by decide) _).mono ?_; rintro e w1 ⟨rfl, rfl⟩))
      all_goals exact bodyPost_ret (v := .tuple #[.agg #[.int .i64 0, .int .i64 0, .int .i64 0, .bool false], .bool false]) (by simp [results, Try.results30, go_sem]) rfl ⟨rfl, rfl⟩
  · have h := (is_iff x).1 hi
    have t1 : tagV x = 6 := h.1
    have t2 : (x / 16 / 8796093022208 != 0) = false := by simp; omega
    have e0 : wrap64 (partV (x / 16) 0 2) = rk x := by simp only [rk, hi, partV, wrap64]; simp; omega
    have e1 : wrap64 (partV (x / 16) 3 20) = rs x := by simp only [rs, hi, partV, wrap64]; simp; omega
    have e2 : wrap64 (partV (x / 16) 23 20) = rt x := by simp only [rt, hi, partV, wrap64]; simp; omega
    have e3 : (partV (x / 16) 2 1 == 1) = rb x := by simp [rb, hi, partV]
    clear h hb
    go_enter Try.func30, Try.ntmps30
    go_wp2_with (first
            | (go_at_call 35; refine (tag_w _ (by assumption) _).mono ?_; rintro e w1 ⟨rfl, rfl⟩)
            | (go_at_call 36; refine (part_w _ _ _ (by assumption) (by decide) _).mono ?_; rintro e w1 ⟨rfl, rfl⟩))
    all_goals exact bodyPost_ret (v := .tuple #[.agg #[.int .i64 (rk x), .int .i64 (rs x), .int .i64 (rt x), .bool (rb x)], .bool true]) (by simp [results, Try.results30, go_sem]) rfl ⟨rfl, rfl⟩
theorem rread_w (x : Int) (hx : (Lit.int .u64 x).wf = true) (w : World) :
    Calls Try.prog 33 #[.int .u64 x] w fun e w' => e = .returned (.tuple #[.agg #[.int .i64 (rk x), .int .i64 (rs x), .int .i64 (rt x), .bool (rb x)], .bool (isV x)]) ∧ w' = w.alloc (.cells #[.int .i64 (rk x), .int .i64 (rs x), .int .i64 (rt x), .bool (rb x)] 33) := by
  have hb := bdu64 hx
  cases hi : isV x
  · have e0 : rk x = 0 := by simp [rk, hi]
    have e1 : rs x = 0 := by simp [rs, hi]
    have e2 : rt x = 0 := by simp [rt, hi]
    have e3 : rb x = false := by simp [rb, hi]
    rw [e0, e1, e2, e3]
    by_cases h1 : x % 16 = 6
    · have h2 : ¬ x / 16 < 8796093022208 := by
        intro h; have := (is_iff x).2 ⟨h1, h⟩; simp [this] at hi
      have t1 : tagV x = 6 := h1
      have t2 : valV x < 0 ∨ 8796093022208 ≤ valV x := by unfold valV wrap64; omega
      clear h1 h2 hb
      rcases t2 with t2 | t2
      · go_enter Try.func33, Try.ntmps33
        go_wp2_with (first
                | (go_at_call 38; refine (rtag_w _ (by assumption) _).mono ?_; rintro e w1 ⟨rfl, rfl⟩)
                | (go_at_call 37; refine (rval_w _ _).mono ?_; rintro e w1 ⟨rfl, rfl⟩))
        all_goals exact bodyPost_ret (v := .tuple #[.agg #[.int .i64 0, .int .i64 0, .int .i64 0, .bool false], .bool false]) (by simp [results, Try.results33, go_sem]) rfl ⟨rfl, rfl⟩
      · go_enter Try.func33, Try.ntmps33
        go_wp2_with (first
                | (go_at_call 38; refine (rtag_w _ (by assumption) _).mono ?_; rintro e w1 ⟨rfl, rfl⟩)
                | (go_at_call 37; refine (rval_w _ _).mono ?_; rintro e w1 ⟨rfl, rfl⟩))
        all_goals exact bodyPost_ret (v := .tuple #[.agg #[.int .i64 0, .int .i64 0, .int .i64 0, .bool false], .bool false]) (by simp [results, Try.results33, go_sem]) rfl ⟨rfl, rfl⟩
    · have t1 : (tagV x != 6) = true := by simpa [tagV] using h1
      clear h1 hb
      go_enter Try.func33, Try.ntmps33
      go_wp2_with (first
              | (go_at_call 38; refine (rtag_w _ (by assumption) _).mono ?_; rintro e w1 ⟨rfl, rfl⟩)
              | (go_at_call 37; refine (rval_w _ _).mono ?_; rintro e w1 ⟨rfl, rfl⟩))
      all_goals exact bodyPost_ret (v := .tuple #[.agg #[.int .i64 0, .int .i64 0, .int .i64 0, .bool false], .bool false]) (by simp [results, Try.results33, go_sem]) rfl ⟨rfl, rfl⟩
  · have h := (is_iff x).1 hi
    have t1 : tagV x = 6 := h.1
    have ev : valV x = x / 16 := by unfold valV wrap64; omega
    have t2 : 0 ≤ valV x := by omega
    have t3 : valV x < 8796093022208 := by omega
    have e0 : bits .and .i64 (valV x) 3 = rk x := by
      rw [mask_i64 (m := 3) 2 (by omega) (by omega) rfl (by omega), ev]; simp only [rk, hi]; simp
    have e1 : bits .and .i64 (valV x / 8) 1048575 = rs x := by
      rw [mask_i64 (m := 1048575) 20 (by omega) (by omega) rfl (by omega), ev]; simp only [rs, hi]; simp
    have e2 : valV x / 8388608 = rt x := by rw [ev]; simp only [rt, hi]; simp; omega
    have e3 : (bits .and .i64 (valV x) 4 != 0) = rb x := by
      rw [bit2_i64 (by omega) (by omega), ev]; simp only [rb, hi]; simp
      rw [Bool.eq_iff_iff]; simp; omega
    clear h hb ev
    go_enter Try.func33, Try.ntmps33
    go_wp2_with (first
            | (go_at_call 38; refine (rtag_w _ (by assumption) _).mono ?_; rintro e w1 ⟨rfl, rfl⟩)
            | (go_at_call 37; refine (rval_w _ _).mono ?_; rintro e w1 ⟨rfl, rfl⟩))
    all_goals exact bodyPost_ret (v := .tuple #[.agg #[.int .i64 (rk x), .int .i64 (rs x), .int .i64 (rt x), .bool (rb x)], .bool true]) (by simp [results, Try.results33, go_sem]) rfl ⟨rfl, rfl⟩

end Go.Proofs.Ytdabigekdnibhaa
