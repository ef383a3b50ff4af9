/- awake of the statements over package term. -/
import Derived.Test.YtgaecjocolihjabDoorTermFacts
namespace Go.Proofs.YtgaecjocolihjabDoor
open Go.ChangeShapes Go.WideShapes Go.ChangeAt Go.RowKit Go.Shelf
set_option linter.unusedSimpArgs false
set_option linter.unusedVariables false
set_option maxHeartbeats 2000000 in
theorem awake_w (w : World) (hTa : Tabs w) :
    Calls Tryd.prog 5 #[] w fun e w' => e = .returned (.bool true) ∧ Below w.heap.size w w' := by
  go_enter Tryd.func5, Tryd.ntmps5
  go_wp2_with fail
  refine (Int_w 1 _ (by omega) (by omega)).mono ?_
  rintro e w1 ⟨v1, rfl, hV1, b1⟩
  go_wp2_with fail
  refine (Atom_w sA _ (by decide)).mono ?_
  rintro e w2 ⟨v2, rfl, hV2, b2⟩
  have hB2 := below_and b1 (Nat.le_refl _) b2
  have hV1' := tv_below (tv_low hV1) b2
  have hV2' := tv_low hV2
  obtain ⟨k, neg, od, ld, cd, nm, n, ol, ll, cl, ob, lb, cb, rfl⟩ := hV1.form
  obtain ⟨k', neg', od', ld', cd', nm', n', ol', ll', cl', ob', lb', cb', rfl⟩ := hV2.form
  clear hV1 hV2 b1 b2
  have hB3 := hB2.alloc hB2.size (.cells #[.int .i64 k, .bool neg, .slice od ld cd, .string nm, .int .i64 n, .slice ol ll cl, .slice ob lb cb, .int .i64 k', .bool neg', .slice od' ld' cd', .string nm', .int .i64 n', .slice ol' ll' cl', .slice ob' lb' cb'] 30)
  have hbb := (Below.refl _ w2).alloc (Nat.le_refl _) (.cells #[.int .i64 k, .bool neg, .slice od ld cd, .string nm, .int .i64 n, .slice ol ll cl, .slice ob lb cb, .int .i64 k', .bool neg', .slice od' ld' cd', .string nm', .int .i64 n', .slice ol' ll' cl', .slice ob' lb' cb'] 30)
  have hR3 := tr_two (tv_below hV1' hbb) (tv_below hV2' hbb) (heap_alloc_new w2 _) (show w2.heap.size < _ by simp)
  unfold tmV
  go_wp2_with fail
  generalize (w2.alloc (.cells #[.int .i64 k, .bool neg, .slice od ld cd, .string nm, .int .i64 n, .slice ol ll cl, .slice ob lb cb, .int .i64 k', .bool neg', .slice od' ld' cd', .string nm', .int .i64 n', .slice ol' ll' cl', .slice ob' lb' cb'] 30)) = W3 at *
  clear hV1' hV2' hbb
  refine (List_w [intT 1, atomT sA] _ _ _ (by simp) (by simp [partsL, parts_int, parts_atom]) (by simp) ?ok hR3).mono ?_
  case ok =>
    intro p hp
    refine aw_ok p ?_
    rw [aw_parts]
    simp only [partsL, parts_int, parts_atom, List.cons_append, List.nil_append, List.mem_cons, List.not_mem_nil, or_false] at hp ⊢
    rcases hp with rfl | rfl <;> simp
  rintro e w4 ⟨v4, rfl, hV4, b4⟩
  rw [aw_cp] at hV4
  have hB4 := below_and hB3 (by have := hB3.size; omega) b4
  have hk6 : Hid (awT.kind = 6) := hid rfl
  have hV5 := tv_low hV4
  clear hV4 hR3 hB3 b4
  have hform : ∃ od ld cd nm n ol ll cl ob lb cb, v4 = tmV 6 false (.slice od ld cd) nm n (.slice ol ll cl) (.slice ob lb cb) := by
    have h := hV5
    unfold awT listT consT TV at h
    obtain ⟨_, _, _, _, _, _, rfl, _⟩ := h
    exact ⟨_, _, _, _, _, _, _, _, _, _, _, rfl⟩
  obtain ⟨od2, ld2, cd2, nm2, n2, ol2, ll2, cl2, ob2, lb2, cb2, rfl⟩ := hform
  unfold tmV
  obtain ⟨kT, hBT, hzT⟩ := bx1 w4 (.int .i64 6) (.bool false) (.slice od2 ld2 cd2) (.string nm2) (.int .i64 n2) (.slice ol2 ll2 cl2) (.slice ob2 lb2 cb2) 30
  have hV6 := tv_below hV5 hBT
  have hB5 := below_and hB4 (by have := hB4.size; omega) hBT
  clear hB4 hBT hV5
  go_upto_region 2 with fail
  generalize (w4.alloc (.cells #[.int .i64 6, .bool false, .slice od2 ld2 cd2, .string nm2, .int .i64 n2, .slice ol2 ll2 cl2, .slice ob2 lb2 cb2] 30)) = W5 at *
  obtain ⟨x0, x1, x2, x3, x4, x5, x6⟩ := kT.res
  go_wp2_with fail
  refine (Words_w awT _ _ aw_dep aw_ok (by rw [aw_parts]; simp) hV6).mono ?_
  rintro e w6 ⟨rfl, b6⟩
  rw [aw_words]
  have hV7 := tv_below hV6 b6
  have hB6 := below_and hB5 (by have := hB5.size; omega) b6
  have kT6 := kT.below b6
  clear x0 x1 x2 x3 x4 x5 x6 hB5 b6 hV6 kT
  obtain ⟨x0, x1, x2, x3, x4, x5, x6⟩ := kT6.res
  go_wp2_with fail
  refine (Tree_w awT _ _ aw_dep hV7).mono ?_
  rintro e w7 ⟨rfl, b7⟩
  rw [aw_tree]
  have hV8 := tv_below hV7 b7
  have hB7 := below_and hB6 (by have := hB6.size; omega) b7
  have kT7 := kT6.below b7
  clear x0 x1 x2 x3 x4 x5 x6 hB6 b7 hV7 kT6
  obtain ⟨x0, x1, x2, x3, x4, x5, x6⟩ := kT7.res
  go_wp2_with fail
  refine (May_w awT _ _ aw_dep aw_ok hV8 (hTa.below hB7)).mono ?_
  rintro e w8 ⟨rfl, b8⟩
  rw [aw_may]
  have hB8 := below_and hB7 (by have := hB7.size; omega) b8
  go_wp2
  go_ret
  exact ⟨rfl, hB8⟩
end Go.Proofs.YtgaecjocolihjabDoor
