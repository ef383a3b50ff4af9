/- What word.Make, word.Read, word.Fields and their twins in the reference answer. -/
import Derived.Test.YtoppmigcoobjeaaWordWalks
namespace Go.Proofs.Ytoppmigcoobjeaa
open Go.ChangeShapes Go.WideShapes Go.ChangeAt Go.RowKit
set_option linter.unusedSimpArgs false
set_option linter.unusedVariables false

/-- a header as the machine holds it -/
def hdr (k s t : Int) (b : Bool) : Value := .agg #[.int .i64 k, .int .i64 s, .int .i64 t, .bool b]

theorem make_w (k s t : Int) (b : Bool) (w : World) :
    Calls Try.prog 9 #[.agg #[.int .i64 k, .int .i64 s, .int .i64 t, .bool b]] w fun e w' => e = .returned (.int .u64 (makeV k s t b)) ∧ w' = w.alloc (.cells #[.int .i64 k, .int .i64 s, .int .i64 t, .bool b] 24) := by
  have p4 : packV 4 0 = 4 := by decide
  cases hm : mayV k s t
  · rw [make_not hm]
    by_cases h1 : k < 0
    · go_enter Try.func9, Try.ntmps9
      go_wp2_with (first | (go_at_call 25; refine (pack_w _ _ (by omega) (by omega) _).mono ?_; rintro e w1 ⟨rfl, rfl⟩) | (go_at_call 24; refine (inbits_w _ _).mono ?_; rintro e w1 ⟨rfl, rfl⟩))
      all_goals go_ret
      all_goals (refine ⟨?_, rfl⟩; simp [p4])
    by_cases h2 : 3 < k
    · go_enter Try.func9, Try.ntmps9
      go_wp2_with (first | (go_at_call 25; refine (pack_w _ _ (by omega) (by omega) _).mono ?_; rintro e w1 ⟨rfl, rfl⟩) | (go_at_call 24; refine (inbits_w _ _).mono ?_; rintro e w1 ⟨rfl, rfl⟩))
      all_goals go_ret
      all_goals (refine ⟨?_, rfl⟩; simp [p4])
    cases d1 : decide (0 ≤ s ∧ s < 1048576)
    · go_enter Try.func9, Try.ntmps9
      go_wp2_with (first | (go_at_call 25; refine (pack_w _ _ (by omega) (by omega) _).mono ?_; rintro e w1 ⟨rfl, rfl⟩) | (go_at_call 24; refine (inbits_w _ _).mono ?_; rintro e w1 ⟨rfl, rfl⟩))
      all_goals go_ret
      all_goals (refine ⟨?_, rfl⟩; simp [p4])
    cases d2 : decide (0 ≤ t ∧ t < 1048576)
    · go_enter Try.func9, Try.ntmps9
      go_wp2_with (first | (go_at_call 25; refine (pack_w _ _ (by omega) (by omega) _).mono ?_; rintro e w1 ⟨rfl, rfl⟩) | (go_at_call 24; refine (inbits_w _ _).mono ?_; rintro e w1 ⟨rfl, rfl⟩))
      all_goals go_ret
      all_goals (refine ⟨?_, rfl⟩; simp [p4])
    exfalso
    have := of_decide_eq_true d1
    have := of_decide_eq_true d2
    have : mayV k s t = true := by rw [may_iff]; omega
    simp [this] at hm
  · rw [make_of hm]
    have hh := (may_iff k s t).1 hm
    have d1 : decide (0 ≤ s ∧ s < 1048576) = true := by simp only [decide_eq_true_eq]; omega
    have d2 : decide (0 ≤ t ∧ t < 1048576) = true := by simp only [decide_eq_true_eq]; omega
    have ho := or_head hm
    have h4 := head_at rfl hm
    obtain ⟨⟨k1, k2⟩, ⟨s1, s2⟩, ⟨t1, t2⟩⟩ := hh
    cases b
    · have e : headV k s t false = k + s * 8 + t * 8388608 := by simp [headV]
      rw [e]
      go_enter Try.func9, Try.ntmps9
      go_wp2_with (first | (go_at_call 25; refine (pack_w _ _ (by omega) (by omega) _).mono ?_; rintro e w1 ⟨rfl, rfl⟩) | (go_at_call 24; refine (inbits_w _ _).mono ?_; rintro e w1 ⟨rfl, rfl⟩))
      all_goals go_ret
      all_goals (refine ⟨?_, rfl⟩; simp [ho])
    · have e : headV k s t true = k + s * 8 + t * 8388608 + 4 := by simp [headV]; omega
      rw [e]
      go_enter Try.func9, Try.ntmps9
      go_wp2_with (first | (go_at_call 25; refine (pack_w _ _ (by omega) (by omega) _).mono ?_; rintro e w1 ⟨rfl, rfl⟩) | (go_at_call 24; refine (inbits_w _ _).mono ?_; rintro e w1 ⟨rfl, rfl⟩))
      all_goals go_ret
      all_goals (refine ⟨?_, rfl⟩; simp [ho, h4])

theorem rmake_w (k s t : Int) (b : Bool) (w : World) :
    Calls Try.prog 20 #[.agg #[.int .i64 k, .int .i64 s, .int .i64 t, .bool b]] w fun e w' => e = .returned (.int .u64 (makeV k s t b)) ∧ w' = w.alloc (.cells #[.int .i64 k, .int .i64 s, .int .i64 t, .bool b] 36) := by
  cases hm : mayV k s t
  · rw [make_not hm]
    have hn : ¬ ((0 ≤ k ∧ k ≤ 3) ∧ (0 ≤ s ∧ s < 1048576) ∧ (0 ≤ t ∧ t < 1048576)) := by rw [← may_iff, hm]; simp
    by_cases h1 : k < 0
    · clear hn
      go_enter Try.func20, Try.ntmps20
      go_wp2_with (first | (go_at_call 15; refine (rof_w _ _ _).mono ?_; rintro e w1 ⟨rfl, rfl⟩))
      all_goals go_ret
      all_goals (refine ⟨?_, rfl⟩; simp)
    by_cases h2 : 3 < k
    · clear hn
      go_enter Try.func20, Try.ntmps20
      go_wp2_with (first | (go_at_call 15; refine (rof_w _ _ _).mono ?_; rintro e w1 ⟨rfl, rfl⟩))
      all_goals go_ret
      all_goals (refine ⟨?_, rfl⟩; simp)
    by_cases h3 : s < 0
    · clear hn
      go_enter Try.func20, Try.ntmps20
      go_wp2_with (first | (go_at_call 15; refine (rof_w _ _ _).mono ?_; rintro e w1 ⟨rfl, rfl⟩))
      all_goals go_ret
      all_goals (refine ⟨?_, rfl⟩; simp)
    by_cases h4 : 1048576 ≤ s
    · clear hn
      go_enter Try.func20, Try.ntmps20
      go_wp2_with (first | (go_at_call 15; refine (rof_w _ _ _).mono ?_; rintro e w1 ⟨rfl, rfl⟩))
      all_goals go_ret
      all_goals (refine ⟨?_, rfl⟩; simp)
    by_cases h5 : t < 0
    · clear hn
      go_enter Try.func20, Try.ntmps20
      go_wp2_with (first | (go_at_call 15; refine (rof_w _ _ _).mono ?_; rintro e w1 ⟨rfl, rfl⟩))
      all_goals go_ret
      all_goals (refine ⟨?_, rfl⟩; simp)
    by_cases h6 : 1048576 ≤ t
    · clear hn
      go_enter Try.func20, Try.ntmps20
      go_wp2_with (first | (go_at_call 15; refine (rof_w _ _ _).mono ?_; rintro e w1 ⟨rfl, rfl⟩))
      all_goals go_ret
      all_goals (refine ⟨?_, rfl⟩; simp)
    omega
  · rw [make_of hm]
    have hh := (may_iff k s t).1 hm
    have ho := or_head hm
    have h4 := head_at rfl hm
    obtain ⟨⟨k1, k2⟩, ⟨s1, s2⟩, ⟨t1, t2⟩⟩ := hh
    cases b
    · have e : headV k s t false = k + s * 8 + t * 8388608 := by simp [headV]
      have f : ofV 6 (k + s * 8 + t * 8388608) = packV 6 (k + s * 8 + t * 8388608) := by
        unfold ofV; rw [if_pos ⟨by omega, (fits_iff _).2 (by omega)⟩]
      rw [e]
      go_enter Try.func20, Try.ntmps20
      go_wp2_with (first | (go_at_call 15; refine (rof_w _ _ _).mono ?_; rintro e w1 ⟨rfl, rfl⟩))
      all_goals go_ret
      all_goals (refine ⟨?_, rfl⟩; simp [ho, f])
    · have e : headV k s t true = k + s * 8 + t * 8388608 + 4 := by simp [headV]; omega
      have f : ofV 6 (k + s * 8 + t * 8388608 + 4) = packV 6 (k + s * 8 + t * 8388608 + 4) := by
        unfold ofV; rw [if_pos ⟨by omega, (fits_iff _).2 (by omega)⟩]
      rw [e]
      go_enter Try.func20, Try.ntmps20
      go_wp2_with (first | (go_at_call 15; refine (rof_w _ _ _).mono ?_; rintro e w1 ⟨rfl, rfl⟩))
      all_goals go_ret
      all_goals (refine ⟨?_, rfl⟩; simp [ho, h4, f])

theorem read_w (x : Int) (hx : (Lit.int .u64 x).wf = true) (w : World) :
    Calls Try.prog 8 #[.int .u64 x] w fun e w' => e = .returned (.tuple #[.agg #[.int .i64 (rk x), .int .i64 (rs x), .int .i64 (rt x), .bool (rb x)], .bool (isV x)]) ∧ w' = w.alloc (.cells #[.int .i64 (rk x), .int .i64 (rs x), .int .i64 (rt x), .bool (rb x)] 24) := by
  have hb := bdu64 hx
  have hy : (Lit.int .u64 (x / 16)).wf = true := wf_u64 (by omega) (by omega)
  cases hi : isV x
  · have e0 : rk x = 0 := by simp [rk, hi]
    have e1 : rs x = 0 := by simp [rs, hi]
    have e2 : rt x = 0 := by simp [rt, hi]
    have e3 : rb x = false := by simp [rb, hi]
    rw [e0, e1, e2, e3]
    by_cases h1 : x % 16 = 6
    · have h2 : ¬ x / 16 < 8796093022208 := by
        intro h; have := (is_iff x).2 ⟨h1, h⟩; simp [this] at hi
      have t1 : tagV x = 6 := h1
      have t2 : (x / 16 / 8796093022208 != 0) = true := by simp; omega
      clear h1 h2 hb
      go_enter Try.func8, Try.ntmps8
      go_wp2_with (first
        | (go_at_call 13; refine (tag_w _ (by assumption) _).mono ?_; rintro e w1 ⟨rfl, rfl⟩)
        | (go_at_call 23; refine (part_w _ _ _ (by assumption) (by decide) _).mono ?_; rintro e w1 ⟨rfl, rfl⟩))
      all_goals exact bodyPost_ret (v := .tuple #[.agg #[.int .i64 0, .int .i64 0, .int .i64 0, .bool false], .bool false]) (by simp [results, Try.results8, go_sem]) rfl ⟨rfl, rfl⟩
    · have t1 : (tagV x != 6) = true := by simpa [tagV] using h1
      clear h1 hb
      go_enter Try.func8, Try.ntmps8
      go_wp2_with (first
        | (go_at_call 13; refine (tag_w _ (by assumption) _).mono ?_; rintro e w1 ⟨rfl, rfl⟩)
        | (go_at_call 23; refine (part_w _ _ _ (by assumption) (by decide) _).mono ?_; rintro e w1 ⟨rfl, rfl⟩))
      all_goals exact bodyPost_ret (v := .tuple #[.agg #[.int .i64 0, .int .i64 0, .int .i64 0, .bool false], .bool false]) (by simp [results, Try.results8, go_sem]) rfl ⟨rfl, rfl⟩
  · have h := (is_iff x).1 hi
    have t1 : tagV x = 6 := h.1
    have t2 : (x / 16 / 8796093022208 != 0) = false := by simp; omega
    have e0 : wrap64 (partV (x / 16) 0 2) = rk x := by simp only [rk, hi, partV, wrap64]; simp; omega
    have e1 : wrap64 (partV (x / 16) 3 20) = rs x := by simp only [rs, hi, partV, wrap64]; simp; omega
    have e2 : wrap64 (partV (x / 16) 23 20) = rt x := by simp only [rt, hi, partV, wrap64]; simp; omega
    have e3 : (partV (x / 16) 2 1 == 1) = rb x := by simp [rb, hi, partV]
    clear h hb
    go_enter Try.func8, Try.ntmps8
    go_wp2_with (first
        | (go_at_call 13; refine (tag_w _ (by assumption) _).mono ?_; rintro e w1 ⟨rfl, rfl⟩)
        | (go_at_call 23; refine (part_w _ _ _ (by assumption) (by decide) _).mono ?_; rintro e w1 ⟨rfl, rfl⟩))
    all_goals exact bodyPost_ret (v := .tuple #[.agg #[.int .i64 (rk x), .int .i64 (rs x), .int .i64 (rt x), .bool (rb x)], .bool true]) (by simp [results, Try.results8, go_sem]) rfl ⟨rfl, rfl⟩
theorem rread_w (x : Int) (hx : (Lit.int .u64 x).wf = true) (w : World) :
    Calls Try.prog 21 #[.int .u64 x] w fun e w' => e = .returned (.tuple #[.agg #[.int .i64 (rk x), .int .i64 (rs x), .int .i64 (rt x), .bool (rb x)], .bool (isV x)]) ∧ w' = w.alloc (.cells #[.int .i64 (rk x), .int .i64 (rs x), .int .i64 (rt x), .bool (rb x)] 36) := by
  have hb := bdu64 hx
  cases hi : isV x
  · have e0 : rk x = 0 := by simp [rk, hi]
    have e1 : rs x = 0 := by simp [rs, hi]
    have e2 : rt x = 0 := by simp [rt, hi]
    have e3 : rb x = false := by simp [rb, hi]
    rw [e0, e1, e2, e3]
    by_cases h1 : x % 16 = 6
    · have h2 : ¬ x / 16 < 8796093022208 := by
        intro h; have := (is_iff x).2 ⟨h1, h⟩; simp [this] at hi
      have t1 : tagV x = 6 := h1
      have t2 : valV x < 0 ∨ 8796093022208 ≤ valV x := by unfold valV wrap64; omega
      clear h1 h2 hb
      rcases t2 with t2 | t2
      · go_enter Try.func21, Try.ntmps21
        go_wp2_with (first
        | (go_at_call 16; refine (rtag_w _ (by assumption) _).mono ?_; rintro e w1 ⟨rfl, rfl⟩)
        | (go_at_call 17; refine (rval_w _ _).mono ?_; rintro e w1 ⟨rfl, rfl⟩))
        all_goals exact bodyPost_ret (v := .tuple #[.agg #[.int .i64 0, .int .i64 0, .int .i64 0, .bool false], .bool false]) (by simp [results, Try.results21, go_sem]) rfl ⟨rfl, rfl⟩
      · go_enter Try.func21, Try.ntmps21
        go_wp2_with (first
        | (go_at_call 16; refine (rtag_w _ (by assumption) _).mono ?_; rintro e w1 ⟨rfl, rfl⟩)
        | (go_at_call 17; refine (rval_w _ _).mono ?_; rintro e w1 ⟨rfl, rfl⟩))
        all_goals exact bodyPost_ret (v := .tuple #[.agg #[.int .i64 0, .int .i64 0, .int .i64 0, .bool false], .bool false]) (by simp [results, Try.results21, go_sem]) rfl ⟨rfl, rfl⟩
    · have t1 : (tagV x != 6) = true := by simpa [tagV] using h1
      clear h1 hb
      go_enter Try.func21, Try.ntmps21
      go_wp2_with (first
        | (go_at_call 16; refine (rtag_w _ (by assumption) _).mono ?_; rintro e w1 ⟨rfl, rfl⟩)
        | (go_at_call 17; refine (rval_w _ _).mono ?_; rintro e w1 ⟨rfl, rfl⟩))
      all_goals exact bodyPost_ret (v := .tuple #[.agg #[.int .i64 0, .int .i64 0, .int .i64 0, .bool false], .bool false]) (by simp [results, Try.results21, go_sem]) rfl ⟨rfl, rfl⟩
  · have h := (is_iff x).1 hi
    have t1 : tagV x = 6 := h.1
    have ev : valV x = x / 16 := by unfold valV wrap64; omega
    have t2 : 0 ≤ valV x := by omega
    have t3 : valV x < 8796093022208 := by omega
    have e0 : bits .and .i64 (valV x) 3 = rk x := by
      rw [mask_i64 (m := 3) 2 (by omega) (by omega) rfl (by omega), ev]; simp only [rk, hi]; simp
    have e1 : bits .and .i64 (valV x / 8) 1048575 = rs x := by
      rw [mask_i64 (m := 1048575) 20 (by omega) (by omega) rfl (by omega), ev]; simp only [rs, hi]; simp
    have e2 : valV x / 8388608 = rt x := by rw [ev]; simp only [rt, hi]; simp; omega
    have e3 : (bits .and .i64 (valV x) 4 != 0) = rb x := by
      rw [bit2_i64 (by omega) (by omega), ev]; simp only [rb, hi]; simp
      rw [Bool.eq_iff_iff]; simp; omega
    clear h hb ev
    go_enter Try.func21, Try.ntmps21
    go_wp2_with (first
        | (go_at_call 16; refine (rtag_w _ (by assumption) _).mono ?_; rintro e w1 ⟨rfl, rfl⟩)
        | (go_at_call 17; refine (rval_w _ _).mono ?_; rintro e w1 ⟨rfl, rfl⟩))
    all_goals exact bodyPost_ret (v := .tuple #[.agg #[.int .i64 (rk x), .int .i64 (rs x), .int .i64 (rt x), .bool (rb x)], .bool true]) (by simp [results, Try.results21, go_sem]) rfl ⟨rfl, rfl⟩

theorem fields_w (k s t : Int) (b : Bool) (w : World) :
    Calls Try.prog 12 #[.agg #[.int .i64 k, .int .i64 s, .int .i64 t, .bool b]] w fun e w' => e = .returned (.int .i64 (fieldsV k s)) ∧ w' = w.alloc (.cells #[.int .i64 k, .int .i64 s, .int .i64 t, .bool b] 24) := by
  by_cases h0 : k = 0
  · subst h0
    have e : fieldsV 0 s = 2 := rfl
    rw [e]
    go_enter Try.func12, Try.ntmps12
    go_wp2
    all_goals go_ret
    all_goals (refine ⟨?_, rfl⟩; simp)
  by_cases h1 : k = 1
  · subst h1
    have e : fieldsV 1 s = s := rfl
    rw [e]
    go_enter Try.func12, Try.ntmps12
    go_wp2
    all_goals go_ret
    all_goals (refine ⟨?_, rfl⟩; simp)
  have e : fieldsV k s = 0 := by simp [fieldsV, h0, h1]
  have h0' : (k == 0) = false := by simpa using h0
  have h1' : (k == 1) = false := by simpa using h1
  rw [e]
  clear h0 h1
  go_enter Try.func12, Try.ntmps12
  go_wp2
  all_goals go_ret
  all_goals (refine ⟨?_, rfl⟩; simp)
theorem rfields_w (k s t : Int) (b : Bool) (w : World) :
    Calls Try.prog 22 #[.agg #[.int .i64 k, .int .i64 s, .int .i64 t, .bool b]] w fun e w' => e = .returned (.int .i64 (fieldsV k s)) ∧ w' = w.alloc (.cells #[.int .i64 k, .int .i64 s, .int .i64 t, .bool b] 36) := by
  by_cases h0 : k = 0
  · subst h0
    have e : fieldsV 0 s = 2 := rfl
    rw [e]
    go_enter Try.func22, Try.ntmps22
    go_wp2
    all_goals go_ret
    all_goals (refine ⟨?_, rfl⟩; simp)
  by_cases h1 : k = 1
  · subst h1
    have e : fieldsV 1 s = s := rfl
    rw [e]
    go_enter Try.func22, Try.ntmps22
    go_wp2
    all_goals go_ret
    all_goals (refine ⟨?_, rfl⟩; simp)
  have e : fieldsV k s = 0 := by simp [fieldsV, h0, h1]
  have h0' : (k == 0) = false := by simpa using h0
  have h1' : (k == 1) = false := by simpa using h1
  rw [e]
  clear h0 h1
  go_enter Try.func22, Try.ntmps22
  go_wp2
  all_goals go_ret
  all_goals (refine ⟨?_, rfl⟩; simp)
theorem header_w (k s t : Int) (b : Bool) (w : World) :
    Calls Try.prog 19 #[.agg #[.int .i64 k, .int .i64 s, .int .i64 t, .bool b]] w fun e w' => e = .returned (.agg #[.int .i64 k, .int .i64 s, .int .i64 t, .bool b]) ∧ w' = (w.alloc (.cells #[.int .i64 k, .int .i64 s, .int .i64 t, .bool b] 36)).alloc (.cells #[.int .i64 k, .int .i64 s, .int .i64 t, .bool b] 24) := by
  go_enter Try.func19, Try.ntmps19
  go_wp2
  all_goals exact bodyPost_ret (v := .agg #[.int .i64 k, .int .i64 s, .int .i64 t, .bool b]) (by simp [results, Try.results19, go_sem]) rfl ⟨rfl, rfl⟩
end Go.Proofs.Ytoppmigcoobjeaa
