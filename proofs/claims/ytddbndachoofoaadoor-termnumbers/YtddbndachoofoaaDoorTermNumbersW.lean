/- TermNumbers, walked. -/
import Derived.Test.YtddbndachoofoaaDoorTermLaid
import Derived.Test.YtddbndachoofoaaDoorTermOf
namespace Go.Proofs.YtddbndachoofoaaDoor.termNumbers
open Go.ChangeShapes Go.WideShapes Go.ChangeAt Go.ChangeMaps Go.RowKit Go.Shelf
set_option linter.unusedSimpArgs false
set_option linter.unusedVariables false
set_option maxHeartbeats 4000000 in
set_option maxRecDepth 8000 in
theorem walk {H : Type} (enc : TypeId × Value → H) (base : Nat) (w : World) (v0 v1 : Value) (d0 d1 : DataW H) (p0 p1 : List MemPlace)
    (o0 : Value.okWide Tryd.prog w .any base 44 v0) (h0 : DataW.Trod enc Tryd.prog w 0 (fun _ => true) true 44 v0 d0 p0)
    (o1 : Value.okWide Tryd.prog w .any base 2 v1) (h1 : DataW.Trod enc Tryd.prog w 0 (fun _ => true) true 2 v1 d1 p1)
    (hT : Tabs w) :
    Calls Tryd.prog 8 #[v0, v1] w fun e w' => e = .returned (.bool true) ∧ Below w.heap.size w w' := by
  obtain ⟨na, oa, la, ca, rfl, hLa, hca, hma, _⟩ := open_num o0 h0
  obtain ⟨N, rfl, rfl, rfl, hN⟩ := open_int Tryd.underlying2 o1 h1
  clear o0 h0 o1 h1
  have hNb : -9223372036854775808 ≤ N ∧ N < 9223372036854775808 := by
    simp [Lit.wf, IntKind.min, IntKind.max, IntKind.bits, IntKind.signed] at hN; omega
  obtain ⟨hN0, hN1⟩ := hNb
  clear hN
  go_enter Tryd.func8, Tryd.ntmps8
  go_wp2_with fail
  have kA0 := Box.new w (.bool na) (.slice oa la.length ca) 44
  have hB0 : Below w.heap.size w (w.alloc (.cells #[.bool na, .slice oa la.length ca] 44)) := (Below.refl _ w).alloc (Nat.le_refl _) _
  have hz0 : (w.alloc (.cells #[.bool na, .slice oa la.length ca] 44)).heap.size = w.heap.size + 1 := by simp
  generalize (w.alloc (.cells #[.bool na, .slice oa la.length ca] 44)) = W0 at *
  refine (awake_w _ (hT.below hB0)).mono ?_
  rintro e w1 ⟨rfl, b1⟩
  have hB1 := below_and hB0 (by omega) b1
  have kA1 := kA0.below b1 (by omega)
  have hz1 := b1.size
  clear kA0 hB0 b1
  obtain ⟨f1, f2, f3, f4⟩ := id kA1
  by_cases hl : 64 < la.length
  · have hl' : (64 : Int) < (la.length : Int) := by omega
    go_wp2
    go_ret
    exact ⟨rfl, hB1⟩
  have hl' : ¬ (64 : Int) < (la.length : Int) := by omega
  obtain ⟨X, hX⟩ : ∃ X, sv na (gval 4294967296 la) = X := ⟨_, rfl⟩
  have hNX : ∀ w', Below w.heap.size w w' → IsN (.agg #[.bool na, .slice oa la.length ca]) X 64 w' := fun w' hb => ⟨na, oa, la, ca, rfl, hLa.below hb, hca, hma, hX, by omega⟩
  clear hLa hca hma hX
  go_wp2_with fail
  refine (Num_w _ X 64 _ (by omega) (hNX _ hB1)).mono ?_
  rintro e w2 ⟨v2, rfl, hV2, hX64, b2⟩
  have hB2 := below_and hB1 (by omega) b2
  have kA2 := kA1.below b2 (by omega)
  have hz2 := b2.size
  have hV2 := tv_low hV2
  clear kA1 hB1 b2 f1 f2 f3 f4
  go_wp2_with fail
  refine (Int_w N _ hN0 hN1).mono ?_
  rintro e w3 ⟨v3, rfl, hV3, b3⟩
  have hB3 := below_and hB2 (by omega) b3
  have kA3 := kA2.below b3 (by omega)
  have hz3 := b3.size
  have hV2 := tv_below hV2 b3
  have hV3 := tv_low hV3
  clear kA2 hB2 b3
  have hN2 := len2 hN0 hN1
  obtain ⟨z, m, od, cd, ol, cl, ob, cb, rfl, hNx⟩ := tv_intN hV2 hX64
  obtain ⟨z', m', od', cd', ol', cl', ob', cb', rfl, hNn⟩ := tv_intN (K := 2) hV3 hN2
  unfold tmV
  obtain ⟨kT, kU, hB4', hz4⟩ := bx2 w3 (.int .i64 0) (.bool z) (.slice od m cd) (.string noS) (.int .i64 0) (.slice ol 0 cl) (.slice ob 0 cb) (.int .i64 0) (.bool z') (.slice od' m' cd') (.string noS) (.int .i64 0) (.slice ol' 0 cl') (.slice ob' 0 cb') 29 29
  have hB4 := below_and hB3 (by omega) hB4'
  have kA4 := kA3.below hB4' (by omega)
  have hVx4 := tv_below hV2 hB4'
  have hVy4 := tv_below hV3 hB4'
  go_upto_region 6 with fail
  generalize ((w3.alloc (.cells #[.int .i64 0, .bool z, .slice od m cd, .string noS, .int .i64 0, .slice ol 0 cl, .slice ob 0 cb] 29)).alloc (.cells #[.int .i64 0, .bool z', .slice od' m' cd', .string noS, .int .i64 0, .slice ol' 0 cl', .slice ob' 0 cb'] 29)) = W4 at *
  have hNx4 : ∀ w', Below W4.heap.size W4 w' → IsN (.agg #[.bool z, .slice od m cd]) X 64 w' := fun w' hb => hNx w' (below_and hB4' (Nat.le_refl _) hb)
  have hNn4 : ∀ w', Below W4.heap.size W4 w' → IsN (.agg #[.bool z', .slice od' m' cd']) N 2 w' := fun w' hb => hNn w' (below_and hB4' (Nat.le_refl _) hb)
  clear hNx hNn hV2 hV3 kA3 hB3 hB4'
  obtain ⟨x0, x1, x2, x3, x4, x5, x6⟩ := kT.res
  go_wp2_with fail
  refine (Of_w X 64 z m od cd ol ob 0 cl 0 cb noS 0 _ (by omega) hNx4).mono ?_
  rintro e w5 ⟨b5, o5, n5, c5, rfl, hC5, br5⟩
  have hB5 := below_and hB4 (by omega) br5
  have kA5 := kA4.below br5 (by omega)
  have kT5 := kT.below br5
  have kU5 := kU.below br5
  have hVx5 := tv_below hVx4 br5
  have hVy5 := tv_below hVy4 br5
  have hNn5 : ∀ w', Below w5.heap.size w5 w' → IsN (.agg #[.bool z', .slice od' m' cd']) N 2 w' := fun w' hb => hNn4 w' (below_and br5 (Nat.le_refl _) hb)
  have hz5 := br5.size
  clear x0 x1 x2 x3 x4 x5 x6 kT kU kA4 hVx4 hVy4 hNx4 hNn4 hB4 br5
  have kx6 := Box.new w5 (.bool b5) (.slice o5 n5 c5) 35
  have hb6 : Below w5.heap.size w5 (w5.alloc (.cells #[.bool b5, .slice o5 n5 c5] 35)) := (Below.refl _ w5).alloc (Nat.le_refl _) _
  have hz6 : (w5.alloc (.cells #[.bool b5, .slice o5 n5 c5] 35)).heap.size = w5.heap.size + 1 := by simp
  go_upto_region 7 with fail
  generalize (w5.alloc (.cells #[.bool b5, .slice o5 n5 c5] 35)) = W6 at *
  have hB6 := below_and hB5 (by omega) hb6
  have kA6 := kA5.below hb6 (by omega)
  have kT6 := kT5.below hb6
  have kU6 := kU5.below hb6
  have hVx6 := tv_below hVx5 hb6
  have hVy6 := tv_below hVy5 hb6
  have hC6 := hC5.below hb6
  have hNn6 : ∀ w', Below W6.heap.size W6 w' → IsN (.agg #[.bool z', .slice od' m' cd']) N 2 w' := fun w' hb => hNn5 w' (below_and hb6 (Nat.le_refl _) hb)
  clear kA5 kT5 kU5 hVx5 hVy5 hC5 hNn5 hB5 hb6
  obtain ⟨x0, x1, x2, x3, x4, x5, x6⟩ := kU6.res
  go_wp2_with fail
  refine (Of_w N 2 z' m' od' cd' ol' ob' 0 cl' 0 cb' noS 0 _ (by omega) hNn6).mono ?_
  rintro e w7 ⟨b7, o7, n7, c7, rfl, hC7, br7⟩
  have hz7 := br7.size
  have hB7 := below_and hB6 (by omega) br7
  have kA7 := kA6.below br7 (by omega)
  have kT7 := kT6.below br7
  have kU7 := kU6.below br7
  have kx7 := kx6.below br7 (by omega)
  have hVx7 := tv_below hVx6 br7
  have hVy7 := tv_below hVy6 br7
  have hC67 := hC6.below br7
  clear x0 x1 x2 x3 x4 x5 x6 kA6 kT6 kU6 kx6 hVx6 hVy6 hC6 hNn6 hB6 br7
  have ky8 := Box.new w7 (.bool b7) (.slice o7 n7 c7) 35
  have hb8 : Below w7.heap.size w7 (w7.alloc (.cells #[.bool b7, .slice o7 n7 c7] 35)) := (Below.refl _ w7).alloc (Nat.le_refl _) _
  have hz8 : (w7.alloc (.cells #[.bool b7, .slice o7 n7 c7] 35)).heap.size = w7.heap.size + 1 := by simp
  go_upto_region 8 with fail
  generalize (w7.alloc (.cells #[.bool b7, .slice o7 n7 c7] 35)) = W7 at *
  have hB8 := below_and hB7 (by omega) hb8
  have kA8 := kA7.below hb8 (by omega)
  have kT8 := kT7.below hb8
  have kU8 := kU7.below hb8
  have kx8 := kx7.below hb8 (by omega)
  have hVx8 := tv_below hVx7 hb8
  have hVy8 := tv_below hVy7 hb8
  have hCx8 := hC67.below hb8
  have hCy8 := hC7.below hb8
  clear kA7 kT7 kU7 kx7 hVx7 hVy7 hC67 hC7 hB7 hb8
  obtain ⟨f1, f2, f3, f4⟩ := id kA8
  go_wp2_with fail
  refine (rsmall_w _ X 64 _ (by omega) (hNX _ hB8)).mono ?_
  rintro e W8 ⟨rfl, br8⟩
  have hz9 := br8.size
  have hB9 := below_and hB8 (by omega) br8
  have kA9 := kA8.below br8 (by omega)
  have kT9 := kT8.below br8
  have kU9 := kU8.below br8
  have kx9 := kx8.below br8 (by omega)
  have ky9 := ky8.below br8 (by omega)
  have hVx9 := tv_below hVx8 br8
  have hVy9 := tv_below hVy8 br8
  have hCx9 := hCx8.below br8
  have hCy9 := hCy8.below br8
  clear f1 f2 f3 f4 kA8 kT8 kU8 kx8 ky8 hVx8 hVy8 hCx8 hCy8 hB8 br8
  go_upto_region 9 with fail
  obtain ⟨sX, hsX⟩ : ∃ sX, smlB X = sX := ⟨_, rfl⟩
  obtain ⟨qX, hqX⟩ : ∃ qX, smlN X = qX := ⟨_, rfl⟩
  rw [hsX, hqX]
  obtain ⟨sN, hsN'⟩ : ∃ sN, smlB N = sN := ⟨_, rfl⟩
  have hsN := hid hsN'
  obtain ⟨WX, hWX'⟩ : ∃ WX : Int, ((wordsN (intT X) : Nat) : Int) = WX := ⟨_, rfl⟩
  obtain ⟨WN, hWN'⟩ : ∃ WN : Int, ((wordsN (intT N) : Nat) : Int) = WN := ⟨_, rfl⟩
  have hWX := hid hWX'
  have hWN := hid hWN'
  have eX : (WX == 0) = sX := by rw [← hWX', ← hsX]; exact words_sml X
  have eN : (WN == 0) = sN := by rw [← hWN', ← hsN']; exact words_sml N
  clear hsX hqX hsN' hWX' hWN'
  have hmX : Hid (mayB (intT X) = true) := hid (by rw [may_int]; exact decide_eq_true hX64)
  have hmN : Hid (mayB (intT N) = true) := hid (by rw [may_int]; exact decide_eq_true (by omega))
  have hx1 : Hid (dep (intT X) ≤ 1000000) := hid (by rw [dep_int]; omega)
  have hy1 : Hid (dep (intT N) ≤ 1000000) := hid (by rw [dep_int]; omega)
  have hx2 : Hid (∀ p ∈ parts (intT X), p.ok1) := hid (by rw [parts_int]; intro p hp; simp at hp; subst hp; exact ok_int (by omega))
  have hy2 : Hid (∀ p ∈ parts (intT N), p.ok1) := hid (by rw [parts_int]; intro p hp; simp at hp; subst hp; exact ok_int (by omega))
  have hx3 : Hid ((parts (intT X)).length ≤ 1000000) := hid (by rw [parts_int]; simp)
  have hy3 : Hid ((parts (intT N)).length ≤ 1000000) := hid (by rw [parts_int]; simp)
  have hVx := hid (fun w' (hb : Below W8.heap.size W8 w') => tv_below hVx9 hb)
  have hVy := hid (fun w' (hb : Below W8.heap.size W8 w') => tv_below hVy9 hb)
  have hCx := hid (fun w' (hb : Below W8.heap.size W8 w') => hCx9.below hb)
  have hCy := hid (fun w' (hb : Below W8.heap.size W8 w') => hCy9.below hb)
  have hTb := hid (fun w' (hb : Below W8.heap.size W8 w') => hT.below (below_and hB9 (by omega) hb))
  have hNXh := hid (fun w' (hb : Below W8.heap.size W8 w') => hNX w' (below_and hB9 (by omega) hb))
  clear hNX
  have hDr : Below W8.heap.size W8 W8.drew := (Below.refl _ W8).drew
  have hfin := hid hB9
  have hzz := hid (show w.heap.size ≤ W8.heap.size by omega)
  generalize hgA : w.heap.size = gA at *
  have hHg := hid hgA
  generalize hgT : w3.heap.size = gT at *
  generalize hgx : w5.heap.size = gx at *
  generalize hgy : w7.heap.size = gy at *
  have hS : Hid (∀ w', Below W8.heap.size W8 w' → (w'.cell? ⟨gA, 0, none⟩ = some (.bool na) ∧ w'.cell? ⟨gA, 1, none⟩ = some (.slice oa la.length ca) ∧ w'.cell? ⟨gT, 0, none⟩ = some (.int .i64 0) ∧ w'.cell? ⟨gT, 1, none⟩ = some (.bool z) ∧ w'.cell? ⟨gT, 2, none⟩ = some (.slice od m cd) ∧ w'.cell? ⟨gT, 3, none⟩ = some (.string noS) ∧ w'.cell? ⟨gT, 4, none⟩ = some (.int .i64 0) ∧ w'.cell? ⟨gT, 5, none⟩ = some (.slice ol 0 cl) ∧ w'.cell? ⟨gT, 6, none⟩ = some (.slice ob 0 cb) ∧ w'.cell? ⟨gT + 1, 0, none⟩ = some (.int .i64 0) ∧ w'.cell? ⟨gT + 1, 1, none⟩ = some (.bool z') ∧ w'.cell? ⟨gT + 1, 2, none⟩ = some (.slice od' m' cd') ∧ w'.cell? ⟨gT + 1, 3, none⟩ = some (.string noS) ∧ w'.cell? ⟨gT + 1, 4, none⟩ = some (.int .i64 0) ∧ w'.cell? ⟨gT + 1, 5, none⟩ = some (.slice ol' 0 cl') ∧ w'.cell? ⟨gT + 1, 6, none⟩ = some (.slice ob' 0 cb') ∧ w'.cell? ⟨gx, 0, none⟩ = some (.bool b5) ∧ w'.cell? ⟨gx, 1, none⟩ = some (.slice o5 n5 c5) ∧ w'.cell? ⟨gy, 0, none⟩ = some (.bool b7) ∧ w'.cell? ⟨gy, 1, none⟩ = some (.slice o7 n7 c7))) := hid (fun w' hb => by
    obtain ⟨a1, a2, _, _⟩ := kA9.below hb (by omega)
    obtain ⟨a3, a4, _, _⟩ := kx9.below hb (by omega)
    obtain ⟨a5, a6, _, _⟩ := ky9.below hb (by omega)
    obtain ⟨t0, t1, t2, t3, t4, t5, t6⟩ := (kT9.below hb).res
    obtain ⟨u0, u1, u2, u3, u4, u5, u6⟩ := (kU9.below hb).res
    exact ⟨a1, a2, t0, t1, t2, t3, t4, t5, t6, u0, u1, u2, u3, u4, u5, u6, a3, a4, a5, a6⟩)
  clear kA9 kx9 ky9 kT9 kU9 hVx9 hVy9 hCx9 hCy9 hB9 hgA hgT hgx hgy hX64 hN2 hT hz0 hz1 hz2 hz3 hz4 hz5 hz6 hz7 hz8 hz9 hl hl'
  refine wp_region_held_drew (S := fun w' => w'.cell? ⟨gA, 0, none⟩ = some (.bool na) ∧ w'.cell? ⟨gA, 1, none⟩ = some (.slice oa la.length ca) ∧ w'.cell? ⟨gT, 0, none⟩ = some (.int .i64 0) ∧ w'.cell? ⟨gT, 1, none⟩ = some (.bool z) ∧ w'.cell? ⟨gT, 2, none⟩ = some (.slice od m cd) ∧ w'.cell? ⟨gT, 3, none⟩ = some (.string noS) ∧ w'.cell? ⟨gT, 4, none⟩ = some (.int .i64 0) ∧ w'.cell? ⟨gT, 5, none⟩ = some (.slice ol 0 cl) ∧ w'.cell? ⟨gT, 6, none⟩ = some (.slice ob 0 cb) ∧ w'.cell? ⟨gT + 1, 0, none⟩ = some (.int .i64 0) ∧ w'.cell? ⟨gT + 1, 1, none⟩ = some (.bool z') ∧ w'.cell? ⟨gT + 1, 2, none⟩ = some (.slice od' m' cd') ∧ w'.cell? ⟨gT + 1, 3, none⟩ = some (.string noS) ∧ w'.cell? ⟨gT + 1, 4, none⟩ = some (.int .i64 0) ∧ w'.cell? ⟨gT + 1, 5, none⟩ = some (.slice ol' 0 cl') ∧ w'.cell? ⟨gT + 1, 6, none⟩ = some (.slice ob' 0 cb') ∧ w'.cell? ⟨gx, 0, none⟩ = some (.bool b5) ∧ w'.cell? ⟨gx, 1, none⟩ = some (.slice o5 n5 c5) ∧ w'.cell? ⟨gy, 0, none⟩ = some (.bool b7) ∧ w'.cell? ⟨gy, 1, none⟩ = some (.slice o7 n7 c7)) (by kernel_rfl) (by first | exact hS.out _ (Below.refl _ _) | exact hS.out _ hDr) (fun hHeld => ?_)
  refine wpAnyH_take (i := 0) (oi := _) (v := ?_) rfl (by kernel_rfl) (by kernel_rfl) (by kernel_rfl) (fun _ _ _ h => h) (Or.inl ⟨by rfl, ?_⟩) (by assumption) ?_
  rotate_left 1
  · (intro w hSw; (try dsimp only at hSw); go_simp; try with_reducible rfl)
  try simp (maxSteps := 10000000) only [List.getElem_toArray, List.getElem_cons_succ, List.getElem_cons_zero, Act.put, List.setIfInBounds_toArray, List.set_cons_zero, List.set_cons_succ]
  refine wpAnyH_take (i := 1) (oi := _) (v := ?_) rfl (by kernel_rfl) (by kernel_rfl) (by kernel_rfl) (fun _ _ _ h => h) (Or.inl ⟨by rfl, ?_⟩) (by assumption) ?_
  rotate_left 1
  · (intro w hSw; (try dsimp only at hSw); go_simp; try with_reducible rfl)
  try simp (maxSteps := 10000000) only [List.getElem_toArray, List.getElem_cons_succ, List.getElem_cons_zero, Act.put, List.setIfInBounds_toArray, List.set_cons_zero, List.set_cons_succ]
  refine wpAnyH_take (i := 2) (oi := _) (v := ?_) rfl (by kernel_rfl) (by kernel_rfl) (by kernel_rfl) (fun _ _ _ h => h) (Or.inl ⟨by rfl, ?_⟩) (by assumption) ?_
  rotate_left 1
  · (intro w hSw; (try dsimp only at hSw); go_simp; try with_reducible rfl)
  try simp (maxSteps := 10000000) only [List.getElem_toArray, List.getElem_cons_succ, List.getElem_cons_zero, Act.put, List.setIfInBounds_toArray, List.set_cons_zero, List.set_cons_succ]
  refine wpAnyH_take (i := 3) (oi := _) (v := ?_) rfl (by kernel_rfl) (by kernel_rfl) (by kernel_rfl) (fun _ _ _ h => h) (Or.inl ⟨by rfl, ?_⟩) (by assumption) ?_
  rotate_left 1
  · (intro w hSw; (try dsimp only at hSw); go_simp; try with_reducible rfl)
  try simp (maxSteps := 10000000) only [List.getElem_toArray, List.getElem_cons_succ, List.getElem_cons_zero, Act.put, List.setIfInBounds_toArray, List.set_cons_zero, List.set_cons_succ]
  refine wpAnyH_take (i := 4) (oi := _) (v := ?_) rfl (by kernel_rfl) (by kernel_rfl) (by kernel_rfl) (fun _ _ _ h => h) (Or.inl ⟨by rfl, ?_⟩) (by assumption) ?_
  rotate_left 1
  · (intro w hSw; (try dsimp only at hSw); go_simp; try with_reducible rfl)
  try simp (maxSteps := 10000000) only [List.getElem_toArray, List.getElem_cons_succ, List.getElem_cons_zero, Act.put, List.setIfInBounds_toArray, List.set_cons_zero, List.set_cons_succ]
  refine wpAnyH_take (i := 5) (oi := _) (v := ?_) rfl (by kernel_rfl) (by kernel_rfl) (by kernel_rfl) (fun _ _ _ h => h) (Or.inl ⟨by rfl, ?_⟩) (by assumption) ?_
  rotate_left 1
  · (intro w hSw; (try dsimp only at hSw); go_simp; try with_reducible rfl)
  try simp (maxSteps := 10000000) only [List.getElem_toArray, List.getElem_cons_succ, List.getElem_cons_zero, Act.put, List.setIfInBounds_toArray, List.set_cons_zero, List.set_cons_succ]
  refine wpAnyH_take (i := 6) (oi := _) (v := ?_) rfl (by kernel_rfl) (by kernel_rfl) (by kernel_rfl) (fun _ _ _ h => h) (Or.inl ⟨by rfl, ?_⟩) (by assumption) ?_
  rotate_left 1
  · (intro w hSw; (try dsimp only at hSw); go_simp; try with_reducible rfl)
  try simp (maxSteps := 10000000) only [List.getElem_toArray, List.getElem_cons_succ, List.getElem_cons_zero, Act.put, List.setIfInBounds_toArray, List.set_cons_zero, List.set_cons_succ]
  refine wpAnyH_take (i := 7) (oi := _) (v := ?_) rfl (by kernel_rfl) (by kernel_rfl) (by kernel_rfl) (fun _ _ _ h => h) (Or.inl ⟨by rfl, ?_⟩) (by assumption) ?_
  rotate_left 1
  · (intro w hSw; (try dsimp only at hSw); go_simp; try with_reducible rfl)
  try simp (maxSteps := 10000000) only [List.getElem_toArray, List.getElem_cons_succ, List.getElem_cons_zero, Act.put, List.setIfInBounds_toArray, List.set_cons_zero, List.set_cons_succ]
  refine wpAnyH_take (i := 8) (oi := _) (v := ?_) rfl (by kernel_rfl) (by kernel_rfl) (by kernel_rfl) (fun _ _ _ h => h) (Or.inl ⟨by rfl, ?_⟩) (by assumption) ?_
  rotate_left 1
  · (intro w hSw; (try dsimp only at hSw); go_simp; try with_reducible rfl)
  try simp (maxSteps := 10000000) only [List.getElem_toArray, List.getElem_cons_succ, List.getElem_cons_zero, Act.put, List.setIfInBounds_toArray, List.set_cons_zero, List.set_cons_succ]
  refine wpAnyH_take (i := 9) (oi := _) (v := ?_) rfl (by kernel_rfl) (by kernel_rfl) (by kernel_rfl) (fun _ _ _ h => h) (Or.inl ⟨by rfl, ?_⟩) (by assumption) ?_
  rotate_left 1
  · (intro w hSw; (try dsimp only at hSw); go_simp; try with_reducible rfl)
  try simp (maxSteps := 10000000) only [List.getElem_toArray, List.getElem_cons_succ, List.getElem_cons_zero, Act.put, List.setIfInBounds_toArray, List.set_cons_zero, List.set_cons_succ]
  refine wpAnyH_take (i := 10) (oi := _) (v := ?_) rfl (by kernel_rfl) (by kernel_rfl) (by kernel_rfl) (fun _ _ _ h => h) (Or.inl ⟨by rfl, ?_⟩) (by assumption) ?_
  rotate_left 1
  · (intro w hSw; (try dsimp only at hSw); go_simp; try with_reducible rfl)
  try simp (maxSteps := 10000000) only [List.getElem_toArray, List.getElem_cons_succ, List.getElem_cons_zero, Act.put, List.setIfInBounds_toArray, List.set_cons_zero, List.set_cons_succ]
  refine wpAnyH_ready (rs := [11]) (by kernel_rfl) (by simp) ?_
  refine AllReadyH.cons rfl (fun K hK => ?_) AllReadyH.nil
  go_simp
  refine (rnorm_c _ X 64 _ (by omega) (hNXh.out _ hDr)).mono ?_
  rintro e wa ⟨ba, oa2, na2, ca2, rfl, hCa, bra⟩
  have c1 : Below W8.heap.size W8 wa := below_and hDr (Nat.le_refl _) bra
  try go_simp
  refine hK.out _ _ ?_ (fun hHeld => ?_)
  · exact hS.out _ (by assumption)
  clear hK K
  try simp (maxSteps := 10000000) only [List.getElem_toArray, List.getElem_cons_succ, List.getElem_cons_zero, Act.put, List.setIfInBounds_toArray, List.set_cons_zero, List.set_cons_succ]
  refine wpAnyH_ready (rs := [12]) (by kernel_rfl) (by simp) ?_
  refine AllReadyH.cons rfl (fun K hK => ?_) AllReadyH.nil
  go_simp
  refine (sameNum_w _ _ X 64 _ (by omega) (hCx.out _ c1) hCa).mono ?_
  rintro e wb ⟨rfl, brb⟩
  have c2 : Below W8.heap.size W8 wb := below_and c1 (Nat.le_refl _) brb
  try go_simp
  refine hK.out _ _ ?_ (fun hHeld => ?_)
  · exact hS.out _ (by assumption)
  clear hK K
  try simp (maxSteps := 10000000) only [List.getElem_toArray, List.getElem_cons_succ, List.getElem_cons_zero, Act.put, List.setIfInBounds_toArray, List.set_cons_zero, List.set_cons_succ]
  refine wpAnyH_take (i := 13) (oi := _) (v := ?_) rfl (by kernel_rfl) (by kernel_rfl) (by kernel_rfl) (fun _ _ _ h => h) (Or.inl ⟨by rfl, ?_⟩) (by assumption) ?_
  rotate_left 1
  · (intro w hSw; (try dsimp only at hSw); go_simp; try with_reducible rfl)
  try simp (maxSteps := 10000000) only [List.getElem_toArray, List.getElem_cons_succ, List.getElem_cons_zero, Act.put, List.setIfInBounds_toArray, List.set_cons_zero, List.set_cons_succ]
  refine wpAnyH_take (i := 14) (oi := _) (v := ?_) rfl (by kernel_rfl) (by kernel_rfl) (by kernel_rfl) (fun _ _ _ h => h) (Or.inl ⟨by rfl, ?_⟩) (by assumption) ?_
  rotate_left 1
  · (intro w hSw; (try dsimp only at hSw); go_simp; try with_reducible rfl)
  try simp (maxSteps := 10000000) only [List.getElem_toArray, List.getElem_cons_succ, List.getElem_cons_zero, Act.put, List.setIfInBounds_toArray, List.set_cons_zero, List.set_cons_succ]
  refine wpAnyH_take (i := 15) (oi := _) (v := ?_) rfl (by kernel_rfl) (by kernel_rfl) (by kernel_rfl) (fun _ _ _ h => h) (Or.inl ⟨by rfl, ?_⟩) (by assumption) ?_
  rotate_left 1
  · (intro w hSw; (try dsimp only at hSw); go_simp; try with_reducible rfl)
  try simp (maxSteps := 10000000) only [List.getElem_toArray, List.getElem_cons_succ, List.getElem_cons_zero, Act.put, List.setIfInBounds_toArray, List.set_cons_zero, List.set_cons_succ]
  refine wpAnyH_take (i := 16) (oi := _) (v := ?_) rfl (by kernel_rfl) (by kernel_rfl) (by kernel_rfl) (fun _ _ _ h => h) (Or.inl ⟨by rfl, ?_⟩) (by assumption) ?_
  rotate_left 1
  · (intro w hSw; (try dsimp only at hSw); go_simp; try with_reducible rfl)
  try simp (maxSteps := 10000000) only [List.getElem_toArray, List.getElem_cons_succ, List.getElem_cons_zero, Act.put, List.setIfInBounds_toArray, List.set_cons_zero, List.set_cons_succ]
  refine wpAnyH_take (i := 17) (oi := _) (v := ?_) rfl (by kernel_rfl) (by kernel_rfl) (by kernel_rfl) (fun _ _ _ h => h) (Or.inl ⟨by rfl, ?_⟩) (by assumption) ?_
  rotate_left 1
  · (intro w hSw; (try dsimp only at hSw); go_simp; try with_reducible rfl)
  try simp (maxSteps := 10000000) only [List.getElem_toArray, List.getElem_cons_succ, List.getElem_cons_zero, Act.put, List.setIfInBounds_toArray, List.set_cons_zero, List.set_cons_succ]
  refine wpAnyH_take (i := 18) (oi := _) (v := ?_) rfl (by kernel_rfl) (by kernel_rfl) (by kernel_rfl) (fun _ _ _ h => h) (Or.inl ⟨by rfl, ?_⟩) (by assumption) ?_
  rotate_left 1
  · (intro w hSw; (try dsimp only at hSw); go_simp; try with_reducible rfl)
  try simp (maxSteps := 10000000) only [List.getElem_toArray, List.getElem_cons_succ, List.getElem_cons_zero, Act.put, List.setIfInBounds_toArray, List.set_cons_zero, List.set_cons_succ]
  refine wpAnyH_take (i := 19) (oi := _) (v := ?_) rfl (by kernel_rfl) (by kernel_rfl) (by kernel_rfl) (fun _ _ _ h => h) (Or.inl ⟨by rfl, ?_⟩) (by assumption) ?_
  rotate_left 1
  · (intro w hSw; (try dsimp only at hSw); go_simp; try with_reducible rfl)
  try simp (maxSteps := 10000000) only [List.getElem_toArray, List.getElem_cons_succ, List.getElem_cons_zero, Act.put, List.setIfInBounds_toArray, List.set_cons_zero, List.set_cons_succ]
  refine wpAnyH_take (i := 20) (oi := _) (v := ?_) rfl (by kernel_rfl) (by kernel_rfl) (by kernel_rfl) (fun _ _ _ h => h) (Or.inl ⟨by rfl, ?_⟩) (by assumption) ?_
  rotate_left 1
  · (intro w hSw; (try dsimp only at hSw); go_simp; try with_reducible rfl)
  try simp (maxSteps := 10000000) only [List.getElem_toArray, List.getElem_cons_succ, List.getElem_cons_zero, Act.put, List.setIfInBounds_toArray, List.set_cons_zero, List.set_cons_succ]
  refine wpAnyH_ready (rs := [21]) (by kernel_rfl) (by simp) ?_
  refine AllReadyH.cons rfl (fun K hK => ?_) AllReadyH.nil
  go_simp
  refine (ofInt_c N _ hN0 hN1).mono ?_
  rintro e wc ⟨bc, oc2, nc2, cc2, rfl, hCc, brc⟩
  have c3 : Below W8.heap.size W8 wc := below_and c2 (Nat.le_refl _) brc
  try go_simp
  refine hK.out _ _ ?_ (fun hHeld => ?_)
  · exact hS.out _ (by assumption)
  clear hK K
  try simp (maxSteps := 10000000) only [List.getElem_toArray, List.getElem_cons_succ, List.getElem_cons_zero, Act.put, List.setIfInBounds_toArray, List.set_cons_zero, List.set_cons_succ]
  refine wpAnyH_ready (rs := [22]) (by kernel_rfl) (by simp) ?_
  refine AllReadyH.cons rfl (fun K hK => ?_) AllReadyH.nil
  go_simp
  refine (sameNum_w _ _ N 2 _ (by omega) (hCy.out _ c3) hCc).mono ?_
  rintro e wd ⟨rfl, brd⟩
  have c4 : Below W8.heap.size W8 wd := below_and c3 (Nat.le_refl _) brd
  try go_simp
  refine hK.out _ _ ?_ (fun hHeld => ?_)
  · exact hS.out _ (by assumption)
  clear hK K
  try simp (maxSteps := 10000000) only [List.getElem_toArray, List.getElem_cons_succ, List.getElem_cons_zero, Act.put, List.setIfInBounds_toArray, List.set_cons_zero, List.set_cons_succ]
  refine wpAnyH_take (i := 23) (oi := _) (v := ?_) rfl (by kernel_rfl) (by kernel_rfl) (by kernel_rfl) (fun _ _ _ h => h) (Or.inl ⟨by rfl, ?_⟩) (by assumption) ?_
  rotate_left 1
  · (intro w hSw; (try dsimp only at hSw); go_simp; try with_reducible rfl)
  try simp (maxSteps := 10000000) only [List.getElem_toArray, List.getElem_cons_succ, List.getElem_cons_zero, Act.put, List.setIfInBounds_toArray, List.set_cons_zero, List.set_cons_succ]
  refine wpAnyH_take (i := 24) (oi := _) (v := ?_) rfl (by kernel_rfl) (by kernel_rfl) (by kernel_rfl) (fun _ _ _ h => h) (Or.inl ⟨by rfl, ?_⟩) (by assumption) ?_
  rotate_left 1
  · (intro w hSw; (try dsimp only at hSw); go_simp; try with_reducible rfl)
  try simp (maxSteps := 10000000) only [List.getElem_toArray, List.getElem_cons_succ, List.getElem_cons_zero, Act.put, List.setIfInBounds_toArray, List.set_cons_zero, List.set_cons_succ]
  refine wpAnyH_take (i := 25) (oi := _) (v := ?_) rfl (by kernel_rfl) (by kernel_rfl) (by kernel_rfl) (fun _ _ _ h => h) (Or.inl ⟨by rfl, ?_⟩) (by assumption) ?_
  rotate_left 1
  · (intro w hSw; (try dsimp only at hSw); go_simp; try with_reducible rfl)
  try simp (maxSteps := 10000000) only [List.getElem_toArray, List.getElem_cons_succ, List.getElem_cons_zero, Act.put, List.setIfInBounds_toArray, List.set_cons_zero, List.set_cons_succ]
  refine wpAnyH_take (i := 28) (oi := _) (v := ?_) rfl (by kernel_rfl) (by kernel_rfl) (by kernel_rfl) (fun _ _ _ h => h) (Or.inl ⟨by rfl, ?_⟩) (by assumption) ?_
  rotate_left 1
  · (intro w hSw; (try dsimp only at hSw); go_simp; try with_reducible rfl)
  try simp (maxSteps := 10000000) only [List.getElem_toArray, List.getElem_cons_succ, List.getElem_cons_zero, Act.put, List.setIfInBounds_toArray, List.set_cons_zero, List.set_cons_succ]
  refine wpAnyH_ready (rs := [26]) (by kernel_rfl) (by simp) ?_
  refine AllReadyH.cons rfl (fun K hK => ?_) AllReadyH.nil
  go_simp
  refine (Words_w (intT X) _ _ hx1.out hx2.out hx3.out (hVx.out _ c4)).mono ?_
  rintro e we ⟨rfl, bre⟩
  rw [hWX.out]
  have c5 : Below W8.heap.size W8 we := below_and c4 (Nat.le_refl _) bre
  try go_simp
  refine hK.out _ _ ?_ (fun hHeld => ?_)
  · exact hS.out _ (by assumption)
  clear hK K
  try simp (maxSteps := 10000000) only [List.getElem_toArray, List.getElem_cons_succ, List.getElem_cons_zero, Act.put, List.setIfInBounds_toArray, List.set_cons_zero, List.set_cons_succ]
  refine wpAnyH_take (i := 27) (oi := _) (v := ?_) rfl (by kernel_rfl) (by kernel_rfl) (by kernel_rfl) (fun _ _ _ h => h) (Or.inl ⟨by rfl, ?_⟩) (by assumption) ?_
  rotate_left 1
  · (intro w hSw; (try dsimp only at hSw); go_simp; try with_reducible rfl)
  try simp (maxSteps := 10000000) only [List.getElem_toArray, List.getElem_cons_succ, List.getElem_cons_zero, Act.put, List.setIfInBounds_toArray, List.set_cons_zero, List.set_cons_succ]
  refine wpAnyH_take (i := 29) (oi := _) (v := ?_) rfl (by kernel_rfl) (by kernel_rfl) (by kernel_rfl) (fun _ _ _ h => h) (Or.inl ⟨by rfl, ?_⟩) (by assumption) ?_
  rotate_left 1
  · (intro w hSw; (try dsimp only at hSw); go_simp; try with_reducible rfl)
  try simp (maxSteps := 10000000) only [List.getElem_toArray, List.getElem_cons_succ, List.getElem_cons_zero, Act.put, List.setIfInBounds_toArray, List.set_cons_zero, List.set_cons_succ]
  refine wpAnyH_take (i := 30) (oi := _) (v := ?_) rfl (by kernel_rfl) (by kernel_rfl) (by kernel_rfl) (fun _ _ _ h => h) (Or.inl ⟨by rfl, ?_⟩) (by assumption) ?_
  rotate_left 1
  · (intro w hSw; (try dsimp only at hSw); go_simp; try with_reducible rfl)
  try simp (maxSteps := 10000000) only [List.getElem_toArray, List.getElem_cons_succ, List.getElem_cons_zero, Act.put, List.setIfInBounds_toArray, List.set_cons_zero, List.set_cons_succ]
  refine wpAnyH_take (i := 31) (oi := _) (v := ?_) rfl (by kernel_rfl) (by kernel_rfl) (by kernel_rfl) (fun _ _ _ h => h) (Or.inl ⟨by rfl, ?_⟩) (by assumption) ?_
  rotate_left 1
  · (intro w hSw; (try dsimp only at hSw); go_simp; try with_reducible rfl)
  try simp (maxSteps := 10000000) only [List.getElem_toArray, List.getElem_cons_succ, List.getElem_cons_zero, Act.put, List.setIfInBounds_toArray, List.set_cons_zero, List.set_cons_succ]
  refine wpAnyH_take (i := 32) (oi := _) (v := ?_) rfl (by kernel_rfl) (by kernel_rfl) (by kernel_rfl) (fun _ _ _ h => h) (Or.inl ⟨by rfl, ?_⟩) (by assumption) ?_
  rotate_left 1
  · (intro w hSw; (try dsimp only at hSw); go_simp; try with_reducible rfl)
  try simp (maxSteps := 10000000) only [List.getElem_toArray, List.getElem_cons_succ, List.getElem_cons_zero, Act.put, List.setIfInBounds_toArray, List.set_cons_zero, List.set_cons_succ]
  refine wpAnyH_take (i := 35) (oi := _) (v := ?_) rfl (by kernel_rfl) (by kernel_rfl) (by kernel_rfl) (fun _ _ _ h => h) (Or.inl ⟨by rfl, ?_⟩) (by assumption) ?_
  rotate_left 1
  · (intro w hSw; (try dsimp only at hSw); go_simp; try with_reducible rfl)
  try simp (maxSteps := 10000000) only [List.getElem_toArray, List.getElem_cons_succ, List.getElem_cons_zero, Act.put, List.setIfInBounds_toArray, List.set_cons_zero, List.set_cons_succ]
  refine wpAnyH_ready (rs := [33]) (by kernel_rfl) (by simp) ?_
  refine AllReadyH.cons rfl (fun K hK => ?_) AllReadyH.nil
  go_simp
  refine (Words_w (intT N) _ _ hy1.out hy2.out hy3.out (hVy.out _ c5)).mono ?_
  rintro e wf ⟨rfl, brf⟩
  rw [hWN.out]
  have c6 : Below W8.heap.size W8 wf := below_and c5 (Nat.le_refl _) brf
  try go_simp
  refine hK.out _ _ ?_ (fun hHeld => ?_)
  · exact hS.out _ (by assumption)
  clear hK K
  try simp (maxSteps := 10000000) only [List.getElem_toArray, List.getElem_cons_succ, List.getElem_cons_zero, Act.put, List.setIfInBounds_toArray, List.set_cons_zero, List.set_cons_succ]
  refine wpAnyH_take (i := 34) (oi := _) (v := ?_) rfl (by kernel_rfl) (by kernel_rfl) (by kernel_rfl) (fun _ _ _ h => h) (Or.inl ⟨by rfl, ?_⟩) (by assumption) ?_
  rotate_left 1
  · (intro w hSw; (try dsimp only at hSw); go_simp; try with_reducible rfl)
  try simp (maxSteps := 10000000) only [List.getElem_toArray, List.getElem_cons_succ, List.getElem_cons_zero, Act.put, List.setIfInBounds_toArray, List.set_cons_zero, List.set_cons_succ]
  refine wpAnyH_ready (rs := [36]) (by kernel_rfl) (by simp) ?_
  refine AllReadyH.cons rfl (fun K hK => ?_) AllReadyH.nil
  go_simp
  refine (Fits_w N _).mono ?_
  rintro e wg ⟨rfl, brg⟩
  rw [hsN.out]
  have c7 : Below W8.heap.size W8 wg := below_and c6 (Nat.le_refl _) brg
  try go_simp
  refine hK.out _ _ ?_ (fun hHeld => ?_)
  · exact hS.out _ (by assumption)
  clear hK K
  try simp (maxSteps := 10000000) only [List.getElem_toArray, List.getElem_cons_succ, List.getElem_cons_zero, Act.put, List.setIfInBounds_toArray, List.set_cons_zero, List.set_cons_succ]
  refine wpAnyH_take (i := 37) (oi := _) (v := ?_) rfl (by kernel_rfl) (by kernel_rfl) (by kernel_rfl) (fun _ _ _ h => h) (Or.inl ⟨by rfl, ?_⟩) (by assumption) ?_
  rotate_left 1
  · (intro w hSw; (try dsimp only at hSw); go_simp; try with_reducible rfl)
  try simp (maxSteps := 10000000) only [List.getElem_toArray, List.getElem_cons_succ, List.getElem_cons_zero, Act.put, List.setIfInBounds_toArray, List.set_cons_zero, List.set_cons_succ]
  refine wpAnyH_take (i := 38) (oi := _) (v := ?_) rfl (by kernel_rfl) (by kernel_rfl) (by kernel_rfl) (fun _ _ _ h => h) (Or.inl ⟨by rfl, ?_⟩) (by assumption) ?_
  rotate_left 1
  · (intro w hSw; (try dsimp only at hSw); go_simp; try with_reducible rfl)
  try simp (maxSteps := 10000000) only [List.getElem_toArray, List.getElem_cons_succ, List.getElem_cons_zero, Act.put, List.setIfInBounds_toArray, List.set_cons_zero, List.set_cons_succ]
  refine wpAnyH_take (i := 39) (oi := _) (v := ?_) rfl (by kernel_rfl) (by kernel_rfl) (by kernel_rfl) (fun _ _ _ h => h) (Or.inl ⟨by rfl, ?_⟩) (by assumption) ?_
  rotate_left 1
  · (intro w hSw; (try dsimp only at hSw); go_simp; try with_reducible rfl)
  try simp (maxSteps := 10000000) only [List.getElem_toArray, List.getElem_cons_succ, List.getElem_cons_zero, Act.put, List.setIfInBounds_toArray, List.set_cons_zero, List.set_cons_succ]
  refine wpAnyH_take (i := 40) (oi := _) (v := ?_) rfl (by kernel_rfl) (by kernel_rfl) (by kernel_rfl) (fun _ _ _ h => h) (Or.inl ⟨by rfl, ?_⟩) (by assumption) ?_
  rotate_left 1
  · (intro w hSw; (try dsimp only at hSw); go_simp; try with_reducible rfl)
  try simp (maxSteps := 10000000) only [List.getElem_toArray, List.getElem_cons_succ, List.getElem_cons_zero, Act.put, List.setIfInBounds_toArray, List.set_cons_zero, List.set_cons_succ]
  refine wpAnyH_ready (rs := [41]) (by kernel_rfl) (by simp) ?_
  refine AllReadyH.cons rfl (fun K hK => ?_) AllReadyH.nil
  go_simp
  refine (May_w (intT X) _ _ hx1.out hx2.out (hVx.out _ c7) (hTb.out _ c7)).mono ?_
  rintro e wh ⟨rfl, brh⟩
  rw [hmX.out]
  have c8 : Below W8.heap.size W8 wh := below_and c7 (Nat.le_refl _) brh
  try go_simp
  refine hK.out _ _ ?_ (fun hHeld => ?_)
  · exact hS.out _ (by assumption)
  clear hK K
  try simp (maxSteps := 10000000) only [List.getElem_toArray, List.getElem_cons_succ, List.getElem_cons_zero, Act.put, List.setIfInBounds_toArray, List.set_cons_zero, List.set_cons_succ]
  refine wpAnyH_take (i := 42) (oi := _) (v := ?_) rfl (by kernel_rfl) (by kernel_rfl) (by kernel_rfl) (fun _ _ _ h => h) (Or.inl ⟨by rfl, ?_⟩) (by assumption) ?_
  rotate_left 1
  · (intro w hSw; (try dsimp only at hSw); go_simp; try with_reducible rfl)
  try simp (maxSteps := 10000000) only [List.getElem_toArray, List.getElem_cons_succ, List.getElem_cons_zero, Act.put, List.setIfInBounds_toArray, List.set_cons_zero, List.set_cons_succ]
  refine wpAnyH_take (i := 43) (oi := _) (v := ?_) rfl (by kernel_rfl) (by kernel_rfl) (by kernel_rfl) (fun _ _ _ h => h) (Or.inl ⟨by rfl, ?_⟩) (by assumption) ?_
  rotate_left 1
  · (intro w hSw; (try dsimp only at hSw); go_simp; try with_reducible rfl)
  try simp (maxSteps := 10000000) only [List.getElem_toArray, List.getElem_cons_succ, List.getElem_cons_zero, Act.put, List.setIfInBounds_toArray, List.set_cons_zero, List.set_cons_succ]
  refine wpAnyH_take (i := 44) (oi := _) (v := ?_) rfl (by kernel_rfl) (by kernel_rfl) (by kernel_rfl) (fun _ _ _ h => h) (Or.inl ⟨by rfl, ?_⟩) (by assumption) ?_
  rotate_left 1
  · (intro w hSw; (try dsimp only at hSw); go_simp; try with_reducible rfl)
  try simp (maxSteps := 10000000) only [List.getElem_toArray, List.getElem_cons_succ, List.getElem_cons_zero, Act.put, List.setIfInBounds_toArray, List.set_cons_zero, List.set_cons_succ]
  refine wpAnyH_ready (rs := [45]) (by kernel_rfl) (by simp) ?_
  refine AllReadyH.cons rfl (fun K hK => ?_) AllReadyH.nil
  go_simp
  refine (May_w (intT N) _ _ hy1.out hy2.out (hVy.out _ c8) (hTb.out _ c8)).mono ?_
  rintro e wi ⟨rfl, bri⟩
  rw [hmN.out]
  have c9 : Below W8.heap.size W8 wi := below_and c8 (Nat.le_refl _) bri
  try go_simp
  refine hK.out _ _ ?_ (fun hHeld => ?_)
  · exact hS.out _ (by assumption)
  clear hK K
  try simp (maxSteps := 10000000) only [List.getElem_toArray, List.getElem_cons_succ, List.getElem_cons_zero, Act.put, List.setIfInBounds_toArray, List.set_cons_zero, List.set_cons_succ]
  refine wpAnyH_take (i := 46) (oi := _) (v := ?_) rfl (by kernel_rfl) (by kernel_rfl) (by kernel_rfl) (fun _ _ _ h => h) (Or.inl ⟨by rfl, ?_⟩) (by assumption) ?_
  rotate_left 1
  · (intro w hSw; (try dsimp only at hSw); go_simp; try with_reducible rfl)
  try simp (maxSteps := 10000000) only [List.getElem_toArray, List.getElem_cons_succ, List.getElem_cons_zero, Act.put, List.setIfInBounds_toArray, List.set_cons_zero, List.set_cons_succ]
  refine wpAnyH_take (i := 47) (oi := _) (v := ?_) rfl (by kernel_rfl) (by kernel_rfl) (by kernel_rfl) (fun _ _ _ h => h) (Or.inl ⟨by rfl, ?_⟩) (by assumption) ?_
  rotate_left 1
  · (intro w hSw; (try dsimp only at hSw); go_simp; try with_reducible rfl)
  try simp (maxSteps := 10000000) only [List.getElem_toArray, List.getElem_cons_succ, List.getElem_cons_zero, Act.put, List.setIfInBounds_toArray, List.set_cons_zero, List.set_cons_succ]
  refine wpAnyH_done (by kernel_rfl) ?_ _
  go_wp2
  go_ret
  exact ⟨rfl, by rw [hHg.out]; exact below_and hfin.out (Nat.le_of_eq hHg.out.symm) (by assumption)⟩
end Go.Proofs.YtddbndachoofoaaDoor.termNumbers
