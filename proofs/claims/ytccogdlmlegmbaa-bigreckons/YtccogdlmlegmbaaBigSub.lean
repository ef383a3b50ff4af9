/- Sub, Compare of package big. -/
import Derived.Test.YtccogdlmlegmbaaBigAdd
namespace Go.Proofs.Ytccogdlmlegmbaa
open Go.ChangeShapes Go.WideShapes Go.ChangeAt Go.RowKit
set_option linter.unusedSimpArgs false
set_option linter.unusedVariables false
theorem IsN.neg {b : Bool} {sl : Value} {Z : Int} {K : Nat} {w : World} (h : IsN (.agg #[.bool b, sl]) Z K w) : IsN (.agg #[.bool (!b), sl]) (-Z) K w := by
  obtain ⟨neg, o, l, c, e, hL, hc, hm, hs, hk⟩ := h
  simp only [Value.agg.injEq, Array.mk.injEq, List.cons.injEq, Value.bool.injEq, and_true] at e
  obtain ⟨rfl, rfl⟩ := e
  refine ⟨!b, o, l, c, rfl, hL, hc, hm, ?_, hk⟩
  rw [← hs]; unfold sv; cases b <;> simp
set_option maxHeartbeats 1000000 in
theorem sub_w (va vb : Value) (X Y : Int) (K : Nat) (w : World) (hK : K + 1 ≤ 1000000) (ha : IsN va X K w) (hb : IsN vb Y K w) :
    Calls Try.prog 24 #[va, vb] w fun e w' => ∃ v', e = .returned v' ∧ IsC v' (X - Y) (K + 1) w' ∧ Below w.heap.size w w' := by
  have hA : ∀ w', Below w.heap.size w w' → IsN va X K w' := fun w' hw => ha.below hw
  obtain ⟨na, oa, la, ca, rfl, hLa, hca, hma, hsa, hka⟩ := ha
  have hb' := hb
  obtain ⟨nb, ob, lb, cb, rfl, hLb, hcb, hmb, hsb, hkb⟩ := hb
  have hB : ∀ w', Below w.heap.size w w' → IsN (.agg #[.bool (!nb), .slice ob lb.length cb]) (-Y) K w' := fun w' hw => (hb'.below hw).neg
  clear hsa hsb hma hmb hLa hLb hca hcb hka hkb hb'
  obtain ⟨kA, kB, kC, hB0, hz0⟩ := boxes3 w (.bool na) (.slice oa la.length ca) (.bool (!nb)) (.slice ob lb.length cb) (.bool false) (.slice none 0 0) 25 25 25
  go_enter Try.func24, Try.ntmps24
  go_wp2_with fail
  generalize (((w.alloc (.cells #[.bool na, .slice oa la.length ca] 25)).alloc (.cells #[.bool (!nb), .slice ob lb.length cb] 25)).alloc (.cells #[.bool false, .slice none 0 0] 25)) = W0 at *
  refine (add_w _ _ X (-Y) K _ hK (hA _ hB0) (hB _ hB0)).mono ?_
  rintro e w1 ⟨v1, rfl, hC, b1⟩
  obtain ⟨o4, c4, rfl, L4, z4, q4⟩ := hC
  have hB4 := below_and hB0 (Nat.le_refl _) b1
  have kC4 := kC.below b1 (by omega)
  obtain ⟨g1, g2, g3, g4⟩ := id kC4
  rw [show X + -Y = X - Y by omega] at *
  go_wp2
  refine bodyPost_ret (v := .agg #[.bool (decide (X - Y < 0)), .slice o4 (glim 4294967296 (X - Y).natAbs).length c4]) (by simp [results, Try.results24, go_sem, g1, g2]) rfl ⟨_, rfl, ?_, ?_⟩
  · exact (show IsC _ (X - Y) _ w1 from ⟨o4, c4, rfl, L4, z4, by omega⟩).box kC4
  · exact (hB4.setCell (p := ⟨w.heap.size + 1 + 1, 0, none⟩) (by simp; omega) _).setCell (p := ⟨w.heap.size + 1 + 1, 1, none⟩) (by simp; omega) _
theorem boxes2 (w : World) (a0 a1 b0 b1 : Value) (ta tb : TypeId) :
    Box w.heap.size a0 a1 ((w.alloc (.cells #[a0, a1] ta)).alloc (.cells #[b0, b1] tb)) ∧ Box (w.heap.size + 1) b0 b1 ((w.alloc (.cells #[a0, a1] ta)).alloc (.cells #[b0, b1] tb)) ∧ Below w.heap.size w ((w.alloc (.cells #[a0, a1] ta)).alloc (.cells #[b0, b1] tb)) ∧ ((w.alloc (.cells #[a0, a1] ta)).alloc (.cells #[b0, b1] tb)).heap.size = w.heap.size + 2 := by
  refine ⟨(Box.new w a0 a1 ta).alloc _ (by simp), ?_, ((Below.refl _ w).alloc (Nat.le_refl _) _).alloc (by simp) _, by simp⟩
  have := Box.new (w.alloc (.cells #[a0, a1] ta)) b0 b1 tb
  simp only [World.size_alloc] at this
  exact this
theorem cmpZ_neg (x y : Int) : cmpZ (-x) (-y) = cmpZ y x := by
  unfold cmpZ
  by_cases h : y < x
  · rw [if_pos (by omega), if_pos h]
  · rw [if_neg (by omega), if_neg h]
    by_cases h2 : x < y
    · rw [if_pos (by omega), if_pos h2]
    · rw [if_neg (by omega), if_neg h2]
set_option maxHeartbeats 1000000 in
theorem Compare_w (va vb : Value) (X Y : Int) (K : Nat) (w : World) (hK : K ≤ 1000000) (ha : IsN va X K w) (hb : IsN vb Y K w) :
    Calls Try.prog 14 #[va, vb] w fun e w' => e = .returned (.int .i64 (cmpZ X Y)) ∧ Below w.heap.size w w' := by
  have hA : ∀ w', Below w.heap.size w w' → IsN va X K w' := fun w' hw => ha.below hw
  have hB : ∀ w', Below w.heap.size w w' → IsN vb Y K w' := fun w' hw => hb.below hw
  obtain ⟨na, oa, la, ca, rfl, hLa, hca, hma, hsa, hka⟩ := ha
  obtain ⟨nb, ob, lb, cb, rfl, hLb, hcb, hmb, hsb, hkb⟩ := hb
  clear hsa hsb hma hmb hLa hLb hca hcb hka hkb
  obtain ⟨kA, kB, hB0, hz0⟩ := boxes2 w (.bool na) (.slice oa la.length ca) (.bool nb) (.slice ob lb.length cb) 25 25
  obtain ⟨R, hR⟩ : ∃ R, cmpZ X Y = R := ⟨_, rfl⟩
  rw [hR]
  have hRH := hid hR
  clear hR
  go_enter Try.func14, Try.ntmps14
  go_wp2
  generalize ((w.alloc (.cells #[.bool na, .slice oa la.length ca] 25)).alloc (.cells #[.bool nb, .slice ob lb.length cb] 25)) = W0 at *
  obtain ⟨f1, f2, f3, f4⟩ := id kA
  obtain ⟨f5, f6, f7, f8⟩ := id kB
  go_cut [] from 5 to 8 (fun wx => Two X Y K w wx ∧ After w W0 wx)
  case first =>
    go_region_with (first
        | (go_at_call_of 32 oa
           refine (view_w _ X K _ (by omega) (hA _ hB0.drew)).mono ?_
           rintro e w1 ⟨v1, rfl, hv1, b1'⟩
           have b1 : Below W0.heap.size W0 w1 := ((Below.refl _ W0).drew).trans b1'
           clear b1'
           obtain ⟨o1, c1, rfl, L1, z1, q1⟩ := hv1 w (hA w (Below.refl _ _))
           have hB1 : Below w.heap.size w w1 := below_and hB0 (Nat.le_refl _) b1
           have hz1 := b1.size
           obtain ⟨p1, p2, p3, p4⟩ := kA.below b1 (by omega)
           obtain ⟨p5, p6, p7, p8⟩ := kB.below b1 (by omega))
        | (go_at_call_of 32 ob
           refine (view_w _ Y K _ (by omega) (hB _ hB1)).mono ?_
           rintro e w2 ⟨v2, rfl, hv2, b2'⟩
           have b2 : Below W0.heap.size W0 w2 := below_and b1 (Nat.le_refl _) b2'
           clear b2' p1 p2 p3 p4 p5 p6 p7 p8
           obtain ⟨o2, c2, rfl, L2, z2, q2⟩ := hv2 w (hB w (Below.refl _ _))
           obtain ⟨p1, p2, p3, p4⟩ := kA.below b2 (by omega)
           obtain ⟨p5, p6, p7, p8⟩ := kB.below b2 (by omega)))
    all_goals (go_wp2_with fail; go_meet)
    all_goals (have hAf := after_put (a0 := .bool (decide (X < 0))) (a1 := .slice o1 (glim 4294967296 X.natAbs).length c1) (b0 := .bool (decide (Y < 0))) (b1 := .slice o2 (glim 4294967296 Y.natAbs).length c2) hB0 (by omega) b2; exact ⟨⟨o1, c1, o2, c2, (boxes_put kA kB (by omega) b2).1, (boxes_put kA kB (by omega) b2).2, L1.below hAf.2.2, L2.below hAf.2.2, z1, z2, q1, q2⟩, hAf⟩)
  case rest =>
    obtain ⟨⟨o1, c1, o2, c2, kA', kB', L1, L2, z1, z2, q1, q2⟩, hAf⟩ := hcut
    have hsz := hAf.2.1
    have hBx := hAf.2.2
    clear hAf kA kB f1 f2 f3 f4 f5 f6 f7 f8 hB0 hA hB
    obtain ⟨f1, f2, f3, f4⟩ := id kA'
    obtain ⟨f5, f6, f7, f8⟩ := id kB'
    clear kA' kB'
    by_cases hx : X < 0
    · have hdx : decide (X < 0) = true := by simp [hx]
      rw [hdx] at f1
      by_cases hy : Y < 0
      · have hdy : decide (Y < 0) = true := by simp [hy]
        rw [hdy] at f5
        have hres : R = cmpZ (Y.natAbs : Int) (X.natAbs : Int) := by
          rw [← hRH.out, ← cmpZ_neg]; congr 1 <;> omega
        clear hx hy hdx hdy hRH
        go_wp2_with fail
        refine (compare_w o2 o1 c2 c1 _ _ _ (by omega) (by omega) L2 L1).mono ?_
        rintro e wd ⟨rfl, bd⟩
        go_wp2
        go_ret
        exact ⟨by rw [hres]; rfl, below_and hBx (Nat.le_refl _) bd⟩
      · have hdy : decide (Y < 0) = false := by simp [hy]
        rw [hdy] at f5
        have hres : R = -1 := by rw [← hRH.out, cmpZ_lt (by omega)]
        clear hx hy hdx hdy hRH
        go_wp2
        go_ret
        exact ⟨by rw [hres]; rfl, hBx⟩
    · have hdx : decide (X < 0) = false := by simp [hx]
      rw [hdx] at f1
      by_cases hy : Y < 0
      · have hdy : decide (Y < 0) = true := by simp [hy]
        rw [hdy] at f5
        have hres : R = 1 := by rw [← hRH.out, cmpZ_gt (by omega)]
        clear hx hy hdx hdy hRH
        go_wp2
        go_ret
        exact ⟨by rw [hres]; rfl, hBx⟩
      · have hdy : decide (Y < 0) = false := by simp [hy]
        rw [hdy] at f5
        have hres : R = cmpZ (X.natAbs : Int) (Y.natAbs : Int) := by
          rw [← hRH.out]; congr 1 <;> omega
        clear hx hy hdx hdy hRH
        go_wp2_with fail
        refine (compare_w o1 o2 c1 c2 _ _ _ (by omega) (by omega) L1 L2).mono ?_
        rintro e wd ⟨rfl, bd⟩
        go_wp2
        go_ret
        exact ⟨by rw [hres]; rfl, below_and hBx (Nat.le_refl _) bd⟩
end Go.Proofs.Ytccogdlmlegmbaa
