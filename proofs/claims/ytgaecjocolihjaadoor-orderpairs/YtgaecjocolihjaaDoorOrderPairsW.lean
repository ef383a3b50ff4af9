/- OrderPairs, walked. -/
import Derived.Test.YtgaecjocolihjaaDoorOrdFacts
namespace Go.Proofs.YtgaecjocolihjaaDoor.orderPairs
open Go.ChangeShapes Go.WideShapes Go.ChangeAt Go.ChangeMaps Go.RowKit Go.Shelf
set_option linter.unusedSimpArgs false
set_option linter.unusedVariables false
set_option maxHeartbeats 4000000 in
set_option maxRecDepth 8000 in
theorem walk {H : Type} (enc : TypeId × Value → H) (base : Nat) (w : World) (v0 v1 : Value) (d0 d1 : DataW H) (p0 p1 : List MemPlace)
    (o0 : Value.okWide Tryd.prog w .any base 27 v0) (h0 : DataW.Trod enc Tryd.prog w 0 (fun _ => true) true 27 v0 d0 p0)
    (o1 : Value.okWide Tryd.prog w .any base 27 v1) (h1 : DataW.Trod enc Tryd.prog w 0 (fun _ => true) true 27 v1 d1 p1)
    (hT : Tabs w) :
    Calls Tryd.prog 4 #[v0, v1] w fun e w' => e = .returned (.bool true) ∧ Below w.heap.size w w' := by
  obtain ⟨A, hA0⟩ := open_term o0 h0
  obtain ⟨U, hU0⟩ := open_term o1 h1
  clear o0 h0 o1 h1
  obtain ⟨k, neg, od, ld, cd, nm, n, ol, ll, cl, ob, lb, cb, rfl⟩ := hA0.form
  obtain ⟨k', neg', od', ld', cd', nm', n', ol', ll', cl', ob', lb', cb', rfl⟩ := hU0.form
  obtain ⟨kA, kB, hB0, hz0⟩ := bx2 w (.int .i64 k) (.bool neg) (.slice od ld cd) (.string nm) (.int .i64 n) (.slice ol ll cl) (.slice ob lb cb) (.int .i64 k') (.bool neg') (.slice od' ld' cd') (.string nm') (.int .i64 n') (.slice ol' ll' cl') (.slice ob' lb' cb') 27 27
  go_enter Tryd.func4, Tryd.ntmps4
  go_wp2_with fail
  generalize ((w.alloc (.cells #[.int .i64 k, .bool neg, .slice od ld cd, .string nm, .int .i64 n, .slice ol ll cl, .slice ob lb cb] 27)).alloc (.cells #[.int .i64 k', .bool neg', .slice od' ld' cd', .string nm', .int .i64 n', .slice ol' ll' cl', .slice ob' lb' cb'] 27)) = W0 at *
  refine (awake6_w _ (hT.below hB0)).mono ?_
  rintro e w1 ⟨rfl, b1⟩
  have B1 := below_and hB0 (Nat.le_refl _) b1
  have kA1 := kA.below b1
  have kB1 := kB.below b1
  clear kA kB hB0 b1 hz0
  obtain ⟨x0, x1, x2, x3, x4, x5, x6⟩ := kA1.res
  obtain ⟨y0, y1, y2, y3, y4, y5, y6⟩ := kB1.res
  have bn : Below w1.heap.size w1 (w1.alloc (.cells #[.int .i64 k, .bool neg, .slice od ld cd, .string nm, .int .i64 n, .slice ol ll cl, .slice ob lb cb, .int .i64 k', .bool neg', .slice od' ld' cd', .string nm', .int .i64 n', .slice ol' ll' cl', .slice ob' lb' cb'] 27)) := (Below.refl _ _).alloc (Nat.le_refl _) _
  have hTR := tr_pair (heap_alloc_new w1 (.cells #[.int .i64 k, .bool neg, .slice od ld cd, .string nm, .int .i64 n, .slice ol ll cl, .slice ob lb cb, .int .i64 k', .bool neg', .slice od' ld' cd', .string nm', .int .i64 n', .slice ol' ll' cl', .slice ob' lb' cb'] 27)) (tv_below hA0 (below_and B1 (Nat.le_refl _) bn)) (tv_below hU0 (below_and B1 (Nat.le_refl _) bn))
  go_wp2_with fail
  refine (Rooms_w 2 (by omega) [A, U] _ _ _ hTR (hT.below (below_and B1 (Nat.le_refl _) bn))).mono ?_
  rintro e w2 ⟨rfl, b2⟩
  have b2' := below_and bn (Nat.le_refl _) b2
  have B2 := below_and B1 (Nat.le_refl _) b2'
  have kA2 := kA1.below b2'
  have kB2 := kB1.below b2'
  obtain ⟨bb, hbb⟩ : ∃ bb, (decide (([A, U] : List Tm).length ≤ 2) && [A, U].all okRow) = bb := ⟨_, rfl⟩
  rw [hbb]
  cases bb with
  | false =>
    clear hbb hTR
    go_wp2
    go_ret
    exact ⟨rfl, B2⟩
  | true =>
  rw [Bool.and_eq_true] at hbb
  have hf := rooms_wf hTR hbb.2
  have hwA := hid (hf A (by simp))
  have hwU := hid (hf U (by simp))
  clear hbb hf hTR bn b2 b2' B1 kA1 kB1 x0 x1 x2 x3 x4 x5 x6 y0 y1 y2 y3 y4 y5 y6
  have hTA := hid (fun w' (hb : Below w2.heap.size w2 w') => tv_below hA0 (below_and B2 (Nat.le_refl _) hb))
  have hTU := hid (fun w' (hb : Below w2.heap.size w2 w') => tv_below hU0 (below_and B2 (Nat.le_refl _) hb))
  have hTa := hid (fun w' (hb : Below w2.heap.size w2 w') => hT.below (below_and B2 (Nat.le_refl _) hb))
  have HB := hid B2
  clear hA0 hU0 hT B2
  obtain ⟨X, hX⟩ : ∃ X, cT A U = X := ⟨_, rfl⟩
  have HX := hid hX
  have HY : Hid (cT U A = -X) := hid (by rw [← hX, cT_neg A U hwA.out.1 hwU.out.1])
  have HZ : Hid (cT A A = 0) := hid (cT_self A hwA.out.1)
  clear hX
  have hXr : -9223372036854775808 < X ∧ X < 9223372036854775808 := by
    have := cT_range A U
    rw [HX.out] at this
    omega
  obtain ⟨x0, x1, x2, x3, x4, x5, x6⟩ := kA2.res
  obtain ⟨y0, y1, y2, y3, y4, y5, y6⟩ := kB2.res
  go_wp2_with fail
  clear x0 x1 x2 x3 x4 x5 x6 y0 y1 y2 y3 y4 y5 y6
  refine (Compare_o A U _ _ _ (hTA.out _ (Below.refl _ _)) (hTU.out _ (Below.refl _ _)) hwA.out.1 hwU.out.1 hwA.out.2.1 (hTa.out _ (Below.refl _ _))).mono ?_
  rw [HX.out]
  rintro e w3 ⟨rfl, b3⟩
  have kA3 := kA2.below b3
  have kB3 := kB2.below b3
  clear kA2 kB2
  obtain ⟨x0, x1, x2, x3, x4, x5, x6⟩ := kA3.res
  obtain ⟨y0, y1, y2, y3, y4, y5, y6⟩ := kB3.res
  go_wp2_with fail
  clear x0 x1 x2 x3 x4 x5 x6 y0 y1 y2 y3 y4 y5 y6
  refine (rCompare_w (tsz A) A U _ _ _ (Nat.le_refl _) hwA.out.2.2 hwU.out.2.2 (hTA.out _ b3) (hTU.out _ b3) (hTa.out _ b3)).mono ?_
  rw [HX.out]
  rintro e w4 ⟨rfl, b4'⟩
  have b4 := below_and b3 (Nat.le_refl _) b4'
  have kA4 := kA3.below b4'
  have kB4 := kB3.below b4'
  clear kA3 kB3 b3 b4'
  obtain ⟨x0, x1, x2, x3, x4, x5, x6⟩ := kA4.res
  obtain ⟨y0, y1, y2, y3, y4, y5, y6⟩ := kB4.res
  go_wp2_with fail
  clear x0 x1 x2 x3 x4 x5 x6 y0 y1 y2 y3 y4 y5 y6
  refine (Compare_o U A _ _ _ (hTU.out _ b4) (hTA.out _ b4) hwU.out.1 hwA.out.1 hwU.out.2.1 (hTa.out _ b4)).mono ?_
  rw [HY.out]
  rintro e w5 ⟨rfl, b5'⟩
  have b5 := below_and b4 (Nat.le_refl _) b5'
  have kA5 := kA4.below b5'
  clear kA4 kB4 b4 b5'
  obtain ⟨x0, x1, x2, x3, x4, x5, x6⟩ := kA5.res
  have hwr : IntKind.i64.wrap (-X) = -X := by rw [IntKind.wrap_i64]; omega
  go_wp2_with fail
  clear x0 x1 x2 x3 x4 x5 x6
  refine (Compare_o A A _ _ _ (hTA.out _ b5) (hTA.out _ b5) hwA.out.1 hwA.out.1 hwA.out.2.1 (hTa.out _ b5)).mono ?_
  rw [HZ.out]
  rintro e w6 ⟨rfl, b6'⟩
  have b6 := below_and b5 (Nat.le_refl _) b6'
  go_wp2
  go_ret
  exact ⟨rfl, below_and HB.out (Nat.le_refl _) b6⟩
end Go.Proofs.YtgaecjocolihjaaDoor.orderPairs
