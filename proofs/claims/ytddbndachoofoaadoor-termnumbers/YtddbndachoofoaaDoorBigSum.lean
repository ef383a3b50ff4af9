/- sum, difference, compare of package big, on limbs. -/
import Derived.Test.YtddbndachoofoaaDoorBigKit
namespace Go.Proofs.YtddbndachoofoaaDoor
open Go.ChangeShapes Go.WideShapes Go.ChangeAt Go.RowKit
set_option linter.unusedSimpArgs false
set_option linter.unusedVariables false

theorem pow_step (i : Nat) : (4294967296 : Nat) ^ (i + 1) = 4294967296 ^ i * 4294967296 := Nat.pow_succ ..
/-- one place of a sum: what is written and what is carried -/
theorem sum_step {P S T U c x y s : Nat} (hs : c + x + y = s) (h : S + P * c = T + U) : S + P * (s % 4294967296) + (P * 4294967296) * (s / 4294967296) = (T + P * x) + (U + P * y) := by
  have e : P * s = P * c + P * x + P * y := by rw [← hs, Nat.mul_add, Nat.mul_add]
  have e2 : P * s = P * (s % 4294967296) + (P * 4294967296) * (s / 4294967296) := by
    rw [Nat.mul_assoc, ← Nat.mul_add, Nat.mod_add_div]
  omega
/-- one place of a difference -/
theorem dif_step (x t : Nat) (hx : x < 4294967296) (ht : t ≤ 4294967296) : ∃ D r q : Nat, IntKind.u64.wrap ((x : Int) - (t : Int)) = (D : Int) ∧ IntKind.u32.wrap (D : Int) = (r : Int) ∧ (D : Int) / 9223372036854775808 = (q : Int) ∧ r + t = x + 4294967296 * q ∧ q ≤ 1 ∧ r < 4294967296 := by
  by_cases h : t ≤ x
  · exact ⟨x - t, x - t, 0, by rw [IntKind.wrap_u64]; omega, by rw [IntKind.wrap_u32]; omega, by omega, by omega, by omega, by omega⟩
  · exact ⟨18446744073709551616 + x - t, 4294967296 + x - t, 1, by rw [IntKind.wrap_u64]; omega, by rw [IntKind.wrap_u32]; omega, by omega, by omega, by omega, by omega⟩
theorem dif_sum {P S T U b t y x r q : Nat} (hb : b + y = t) (hr : r + t = x + 4294967296 * q) (h : S + U = T + P * b) : S + P * r + (U + P * y) = T + P * x + P * 4294967296 * q := by
  have e1 : P * t = P * b + P * y := by rw [← hb, Nat.mul_add]
  have e2 : P * r + P * t = P * x + P * 4294967296 * q := by rw [← Nat.mul_add, hr, Nat.mul_add, Nat.mul_assoc]
  omega
/-- -1, 0, 1 -/
def cmpZ (x y : Int) : Int := if x < y then -1 else if y < x then 1 else 0
theorem isNaN_w (x : Int) (w : World) : Calls Tryd.prog 81 #[.int .i64 x] w fun e w' => e = .returned (.bool false) ∧ w' = w := by
  go_enter Tryd.func81, Tryd.ntmps81
  go_wp2
  go_ret
  exact ⟨by simp, rfl⟩
theorem isNaNu_w (x : Int) (w : World) : Calls Tryd.prog 82 #[.int .u32 x] w fun e w' => e = .returned (.bool false) ∧ w' = w := by
  go_enter Tryd.func82, Tryd.ntmps82
  go_wp2
  go_ret
  exact ⟨by simp, rfl⟩
theorem cmpi_w (x y : Int) (w : World) : Calls Tryd.prog 78 #[.int .i64 x, .int .i64 y] w fun e w' => e = .returned (.int .i64 (cmpZ x y)) ∧ w' = w := by
  unfold cmpZ
  by_cases h1 : x < y
  · go_enter Tryd.func78, Tryd.ntmps78
    go_wp2_with (go_at_call 81; refine (isNaN_w _ _).mono ?_; rintro e w1 ⟨rfl, rfl⟩)
    go_ret
    exact ⟨by simp [h1], rfl⟩
  · by_cases h2 : y < x
    · go_enter Tryd.func78, Tryd.ntmps78
      go_wp2_with (go_at_call 81; refine (isNaN_w _ _).mono ?_; rintro e w1 ⟨rfl, rfl⟩)
      go_ret
      exact ⟨by simp [h1, h2], rfl⟩
    · go_enter Tryd.func78, Tryd.ntmps78
      go_wp2_with (go_at_call 81; refine (isNaN_w _ _).mono ?_; rintro e w1 ⟨rfl, rfl⟩)
      go_ret
      exact ⟨by simp [h1, h2], rfl⟩
theorem cmpu_w (x y : Int) (w : World) : Calls Tryd.prog 79 #[.int .u32 x, .int .u32 y] w fun e w' => e = .returned (.int .i64 (cmpZ x y)) ∧ w' = w := by
  unfold cmpZ
  by_cases h1 : x < y
  · go_enter Tryd.func79, Tryd.ntmps79
    go_wp2_with (go_at_call 82; refine (isNaNu_w _ _).mono ?_; rintro e w1 ⟨rfl, rfl⟩)
    go_ret
    exact ⟨by simp [h1], rfl⟩
  · by_cases h2 : y < x
    · go_enter Tryd.func79, Tryd.ntmps79
      go_wp2_with (go_at_call 82; refine (isNaNu_w _ _).mono ?_; rintro e w1 ⟨rfl, rfl⟩)
      go_ret
      exact ⟨by simp [h1, h2], rfl⟩
    · go_enter Tryd.func79, Tryd.ntmps79
      go_wp2_with (go_at_call 82; refine (isNaNu_w _ _).mono ?_; rintro e w1 ⟨rfl, rfl⟩)
      go_ret
      exact ⟨by simp [h1, h2], rfl⟩
theorem cmpZ_lt {x y : Int} (h : x < y) : cmpZ x y = -1 := by unfold cmpZ; rw [if_pos h]
theorem cmpZ_gt {x y : Int} (h : y < x) : cmpZ x y = 1 := by unfold cmpZ; rw [if_neg (by omega), if_pos h]
theorem cmpZ_eq (x : Int) : cmpZ x x = 0 := by unfold cmpZ; rw [if_neg (by omega), if_neg (by omega)]
theorem glim_cmp_len {m n : Nat} (h : (glim 4294967296 m).length ≠ (glim 4294967296 n).length) : cmpZ (m : Int) (n : Int) = cmpZ ((glim 4294967296 m).length : Int) ((glim 4294967296 n).length : Int) := by
  rcases Nat.lt_or_gt_of_ne h with h | h
  · have := glim_len_lt (by omega) h
    rw [cmpZ_lt (by omega), cmpZ_lt (by omega)]
  · have := glim_len_lt (by omega) h
    rw [cmpZ_gt (by omega), cmpZ_gt (by omega)]
theorem glim_cmp_at {m n i x y : Nat} (hlen : (glim 4294967296 m).length = (glim 4294967296 n).length) (hd : (glim 4294967296 m).drop (i + 1) = (glim 4294967296 n).drop (i + 1)) (hx : (glim 4294967296 m)[i]? = some x) (hy : (glim 4294967296 n)[i]? = some y) (hxy : x ≠ y) : cmpZ (m : Int) (n : Int) = cmpZ (x : Int) (y : Int) := by
  rcases Nat.lt_or_gt_of_ne hxy with h | h
  · have := gval_order (lm_glim (by omega) m) hlen hd hx hy h
    rw [gval_glim (by omega), gval_glim (by omega)] at this
    rw [cmpZ_lt (by omega), cmpZ_lt (by omega)]
  · have := gval_order (lm_glim (by omega) n) hlen.symm hd.symm hy hx h
    rw [gval_glim (by omega), gval_glim (by omega)] at this
    rw [cmpZ_gt (by omega), cmpZ_gt (by omega)]
theorem below_drewNv {B : Nat} {a w : World} (h : Below B a w) (n : Nat) : Below B a (w.drewN n) := by
  induction n with
  | zero => exact h
  | succ n ih => exact ih.drew
set_option maxHeartbeats 1000000 in
theorem compare_w (oa ob : Option Addr) (ca cb : Nat) (m n : Nat) (w : World) (za : (glim 4294967296 m).length ≤ 1000000) (zb : (glim 4294967296 n).length ≤ 1000000) (ha : Lies oa (glim 4294967296 m) w) (hb : Lies ob (glim 4294967296 n) w) :
    Calls Tryd.prog 73 #[.slice oa (glim 4294967296 m).length ca, .slice ob (glim 4294967296 n).length cb] w fun e w' => e = .returned (.int .i64 (cmpZ (m : Int) (n : Int))) ∧ Below w.heap.size w w' := by
  obtain ⟨R, hR⟩ : ∃ R, cmpZ (m : Int) (n : Int) = R := ⟨_, rfl⟩
  rw [hR]
  have hlen' := glim_cmp_len (m := m) (n := n)
  have hat := fun i x y => glim_cmp_at (m := m) (n := n) (i := i) (x := x) (y := y)
  have heq : glim 4294967296 m = glim 4294967296 n → R = 0 := fun e => by
    have := glim_inj (by omega) e
    subst this; rw [← hR, cmpZ_eq]
  rw [hR] at hlen' hat
  generalize glim 4294967296 m = X at *
  generalize glim 4294967296 n = Y at *
  have hlen := hid hlen'
  clear hlen' hR
  by_cases hl : X.length = Y.length
  · have hlz : ((X.length : Int) != (Y.length : Int)) = false := by simp only [bne_eq_false_iff_eq]; omega
    go_enter Tryd.func73, Tryd.ntmps73
    go_wp2
    clear hlz
    go_loopw [5] (fun i wr => ∃ (k : Nat), i = .int .i64 ((k : Int) - 1) ∧ k ≤ X.length ∧ Below w.heap.size w wr ∧ Hid (X.drop k = Y.drop k)) (fun i _ => (intOf i + 1).toNat)
    case atStart => exact ⟨X.length, by go_num, Nat.le_refl _, Below.refl _ _, hid (by rw [List.drop_of_length_le (by omega), List.drop_of_length_le (by omega)])⟩
    case round =>
      obtain ⟨k, rfl, hk, hbw, hH⟩ := hrel
      by_cases h0 : k = 0
      · subst h0
        have hz := heq (by simpa using hH.out)
        go_wp2
        go_ret
        exact ⟨by rw [hz]; rfl, hbw⟩
      · obtain ⟨j, rfl⟩ : ∃ j, k = j + 1 := ⟨k - 1, by omega⟩
        obtain ⟨x, hx⟩ : ∃ x, X[j]? = some x := ⟨X[j]'(by omega), by simp⟩
        obtain ⟨y, hy⟩ : ∃ y, Y[j]? = some y := ⟨Y[j]'(by omega), by simp⟩
        obtain ⟨a, rfl, cx⟩ := (ha.below hbw) j x hx
        obtain ⟨b, rfl, cy⟩ := (hb.below hbw) j y hy
        have e1 : (((j + 1 : Nat) : Int) - 1) = (j : Int) := by omega
        have hjx : (j : Int) < (X.length : Int) := by omega
        have hjy : (j : Int) < (Y.length : Int) := by omega
        rw [e1]
        by_cases hxy : x = y
        · subst hxy
          have hdn : Hid (X.drop j = Y.drop j) := hid (by
            rw [List.drop_eq_getElem_cons (by omega : j < X.length), List.drop_eq_getElem_cons (by omega : j < Y.length), hH.out]
            congr 1
            rw [List.getElem?_eq_getElem (by omega)] at hx hy
            injection hx with hx; injection hy with hy; rw [hx, hy])
          go_wp2
          go_quiet (fail)
          go_wp2
          go_roundw
          case rel => exact ⟨j, by go_num, by omega, below_drewNv hbw _, hdn⟩
          case measure => simp [intOf]
        · have hxz : ((x : Int) != (y : Int)) = true := by simp only [bne_iff_ne, ne_eq]; omega
          have hres := hid (hat j x y hl hH.out hx hy hxy)
          clear hat heq
          go_wp2
          go_quiet (fail)
          have hbw' := below_drewNv hbw nq
          obtain ⟨a', ea, cx'⟩ := (ha.below hbw') j x hx
          obtain ⟨b', eb, cy'⟩ := (hb.below hbw') j y hy
          cases ea; cases eb
          clear cx cy hbw
          generalize wr.drewN nq = wq at *
          go_wp2
          go_quiet ((go_at_call 79; exact Calls.quiet_of_same (cmpu_w _ _ _)))
          go_wp2
          go_ret
          exact ⟨by rw [hres.out]; rfl, below_drewNv hbw' _⟩
  · have hlz : ((X.length : Int) != (Y.length : Int)) = true := by simp only [bne_iff_ne, ne_eq]; omega
    go_enter Tryd.func73, Tryd.ntmps73
    go_wp2_with fail
    refine (cmpi_w _ _ _).mono ?_
    rintro e w1 ⟨rfl, rfl⟩
    go_wp2
    go_ret
    exact ⟨by rw [hlen.out hl]; rfl, Below.refl _ _⟩
end Go.Proofs.YtddbndachoofoaaDoor
