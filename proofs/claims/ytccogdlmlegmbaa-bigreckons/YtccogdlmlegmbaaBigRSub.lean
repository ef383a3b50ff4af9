/- Sub, CompareNum of the reference. -/
import Derived.Test.YtccogdlmlegmbaaBigRAdd
namespace Go.Proofs.Ytccogdlmlegmbaa
open Go.ChangeShapes Go.WideShapes Go.ChangeAt Go.RowKit
set_option linter.unusedSimpArgs false
set_option linter.unusedVariables false
theorem Box.set1c {g k : Nat} {u v x : Value} {w : World} (h : Box g u v w) (hne : g ≠ k) : Box g u v (w.setCell ⟨k, 0, none⟩ x) :=
  ⟨(World.cell?_setCell_other _ _ _ _ (by first | (simp; done) | (simp; omega))).trans h.1, (World.cell?_setCell_other _ _ _ _ (by first | (simp; done) | (simp; omega))).trans h.2.1, (frozen_set _ _ rfl _ _).trans h.2.2.1, (frozen_set _ _ rfl _ _).trans h.2.2.2⟩
set_option maxHeartbeats 1000000 in
theorem rsub_w (va vb : Value) (X Y : Int) (kk : Nat) (w : World) (hK : kk + 1 ≤ 1000000) (ha : IsN va X kk w) (hb : IsN vb Y kk w) :
    Calls Try.prog 25 #[va, vb] w fun e w' => ∃ v', e = .returned v' ∧ IsC v' (X - Y) (kk + 1) w' ∧ Below w.heap.size w w' := by
  have hA : ∀ w', Below w.heap.size w w' → IsN va X kk w' := fun w' hw => ha.below hw
  have hB : ∀ w', Below w.heap.size w w' → IsN vb Y kk w' := fun w' hw => hb.below hw
  obtain ⟨na, oa, la, ca, rfl, hLa, hca, hma, hsa, hka⟩ := ha
  obtain ⟨nb, ob, lb, cb, rfl, hLb, hcb, hmb, hsb, hkb⟩ := hb
  clear hsa hsb hma hmb hLa hLb hca hcb hka hkb
  obtain ⟨kA, kB, kC, hB0, hz0⟩ := boxes3 w (.bool na) (.slice oa la.length ca) (.bool nb) (.slice ob lb.length cb) (.bool false) (.slice none 0 0) 34 34 34
  obtain ⟨f5, f6, f7, f8⟩ := id kB
  go_enter Try.func25, Try.ntmps25
  go_wp2_with fail
  generalize (((w.alloc (.cells #[.bool na, .slice oa la.length ca] 34)).alloc (.cells #[.bool nb, .slice ob lb.length cb] 34)).alloc (.cells #[.bool false, .slice none 0 0] 34)) = W0 at *
  refine (rnorm_w _ Y kk _ (by omega) (hB _ hB0)).mono ?_
  rintro e w1 ⟨s1, rfl, hF1, q1, b1⟩
  have hC1 := hF1.isC q1
  obtain ⟨o1, c1, rfl, _⟩ := hF1.parts
  obtain ⟨bd, hbd⟩ : ∃ bd, decide (Y < 0) = bd := ⟨_, rfl⟩
  obtain ⟨nl, hnl⟩ : ∃ nl, (glim 4294967296 Y.natAbs).length = nl := ⟨_, rfl⟩
  rw [hbd, hnl] at hC1 ⊢
  clear hbd hnl hF1
  have kA1 := kA.below b1 (by omega)
  have kB1 := kB.below b1 (by omega)
  have kC1 := kC.below b1 (by omega)
  have hz1 := b1.size
  obtain ⟨p1, p2, p3, p4⟩ := id kA1
  obtain ⟨p5, p6, p7, p8⟩ := id kB1
  have hCp := hC1.box kB1 (x := .bool bd) (y := .slice o1 nl c1)
  have kBp := kB1.put (u' := .bool bd) (v' := .slice o1 nl c1)
  have kAp := kA1.far (k := w.heap.size + 1) (x := .bool bd) (y := .slice o1 nl c1) (by omega)
  have kCp := kC1.far (k := w.heap.size + 1) (x := .bool bd) (y := .slice o1 nl c1) (by omega)
  have hBp := ((below_and hB0 (Nat.le_refl _) b1).setCell (p := ⟨w.heap.size + 1, 0, none⟩) (by simp) (.bool bd)).setCell (p := ⟨w.heap.size + 1, 1, none⟩) (by simp) (.slice o1 nl c1)
  have hzp : ((w1.setCell ⟨w.heap.size + 1, 0, none⟩ (.bool bd)).setCell ⟨w.heap.size + 1, 1, none⟩ (.slice o1 nl c1)).heap.size = w1.heap.size := by simp
  go_upto_region 2 with fail
  generalize ((w1.setCell ⟨w.heap.size + 1, 0, none⟩ (.bool bd)).setCell ⟨w.heap.size + 1, 1, none⟩ (.slice o1 nl c1)) = W1 at *
  clear p1 p2 p3 p4 p5 p6 p7 p8
  obtain ⟨t1, t2, t3, t4⟩ := id kBp
  obtain ⟨t5, t6, t7, t8⟩ := id kAp
  have kX : Box (w.heap.size + 1) (.bool (!bd)) (.slice o1 nl c1) (W1.setCell ⟨w.heap.size + 1, 0, none⟩ (.bool (!bd))) :=
    ⟨World.cell?_setCell_same _ _ _ t1, (World.cell?_setCell_other _ _ _ _ (by simp)).trans t2, (frozen_set _ _ rfl _ _).trans t3, (frozen_set _ _ rfl _ _).trans t4⟩
  have kC2 := kCp.set1c (k := w.heap.size + 1) (x := .bool (!bd)) (by omega)
  have hC2 : IsC (.agg #[.bool bd, .slice o1 nl c1]) Y kk (W1.setCell ⟨w.heap.size + 1, 0, none⟩ (.bool (!bd))) := by
    obtain ⟨o', c', e', L', z', q'⟩ := hCp
    exact ⟨o', c', e', L'.set t1 (by intro n; simp) _, z', q'⟩
  have hB2 := hBp.setCell (p := ⟨w.heap.size + 1, 0, none⟩) (by simp) (.bool (!bd))
  have hz2 : (W1.setCell ⟨w.heap.size + 1, 0, none⟩ (.bool (!bd))).heap.size = W1.heap.size := by simp
  go_wp2_with fail
  generalize W1.setCell ⟨w.heap.size + 1, 0, none⟩ (.bool (!bd)) = W2 at *
  refine (radd_w _ _ X (-Y) kk _ hK (hA _ hB2) hC2.isN.neg).mono ?_
  rintro e w3 ⟨v3, rfl, h3, b3⟩
  rw [show X + -Y = X - Y by omega] at h3
  obtain ⟨d3, o3, n3, c3, rfl⟩ := h3.shape
  have kC3 := kC2.below b3 kC2.lt
  have hB3 := below_and hB2 (Nat.le_refl _) b3
  obtain ⟨g1, g2, g3, g4⟩ := id kC3
  go_wp2
  refine bodyPost_ret (v := .agg #[.bool d3, .slice o3 n3 c3]) (by simp [results, Try.results25, go_sem, g1, g2]) rfl ⟨_, rfl, h3.box kC3, ?_⟩
  exact (hB3.setCell (p := ⟨w.heap.size + 1 + 1, 0, none⟩) (by simp; omega) _).setCell (p := ⟨w.heap.size + 1 + 1, 1, none⟩) (by simp; omega) _
theorem wrap_cmp (x y : Int) : wrap64 (-cmpZ x y) = cmpZ y x := by
  rw [cmpZ_swap]
  unfold cmpZ wrap64
  split <;> (try split) <;> omega
set_option maxHeartbeats 1000000 in
theorem rcmp_w (va vb : Value) (X Y : Int) (kk : Nat) (w : World) (hK : kk ≤ 1000000) (ha : IsN va X kk w) (hb : IsN vb Y kk w) :
    Calls Try.prog 26 #[va, vb] w fun e w' => e = .returned (.int .i64 (cmpZ X Y)) ∧ Below w.heap.size w w' := by
  have hA : ∀ w', Below w.heap.size w w' → IsN va X kk w' := fun w' hw => ha.below hw
  have hB : ∀ w', Below w.heap.size w w' → IsN vb Y kk w' := fun w' hw => hb.below hw
  obtain ⟨na, oa, la, ca, rfl, hLa, hca, hma, hsa, hka⟩ := ha
  obtain ⟨nb, ob, lb, cb, rfl, hLb, hcb, hmb, hsb, hkb⟩ := hb
  clear hsa hsb hma hmb hLa hLb hca hcb hka hkb
  obtain ⟨kA, kB, hB0, hz0⟩ := boxes2 w (.bool na) (.slice oa la.length ca) (.bool nb) (.slice ob lb.length cb) 34 34
  obtain ⟨R, hR⟩ : ∃ R, cmpZ X Y = R := ⟨_, rfl⟩
  rw [hR]
  have hRH := hid hR
  clear hR
  go_enter Try.func26, Try.ntmps26
  go_wp2
  generalize ((w.alloc (.cells #[.bool na, .slice oa la.length ca] 34)).alloc (.cells #[.bool nb, .slice ob lb.length cb] 34)) = W0 at *
  obtain ⟨f1, f2, f3, f4⟩ := id kA
  obtain ⟨f5, f6, f7, f8⟩ := id kB
  go_cut [] from 6 to 9 (fun wx => Two X Y kk w wx ∧ After w W0 wx)
  case first =>
    go_region_with (first
        | (go_at_call_of 28 oa
           refine (rnorm_w _ X kk _ (by omega) (hA _ hB0.drew)).mono ?_
           rintro e w1 ⟨s1, rfl, hF1, q1, b1'⟩
           have b1 : Below W0.heap.size W0 w1 := ((Below.refl _ W0).drew).trans b1'
           clear b1'
           obtain ⟨o1, c1, rfl, L1, z1, _⟩ := hF1.parts
           have hB1 : Below w.heap.size w w1 := below_and hB0 (Nat.le_refl _) b1
           have hz1 := b1.size
           obtain ⟨p1, p2, p3, p4⟩ := kA.below b1 (by omega)
           obtain ⟨p5, p6, p7, p8⟩ := kB.below b1 (by omega))
        | (go_at_call_of 28 ob
           refine (rnorm_w _ Y kk _ (by omega) (hB _ hB1)).mono ?_
           rintro e w2 ⟨s2, rfl, hF2, q2, b2'⟩
           have b2 : Below W0.heap.size W0 w2 := below_and b1 (Nat.le_refl _) b2'
           have L1' := L1.below b2'
           clear b2' p1 p2 p3 p4 p5 p6 p7 p8
           obtain ⟨o2, c2, rfl, L2, z2, _⟩ := hF2.parts
           have kA2 := kA.below b2 (by omega)
           have kB2 := kB.below b2 (by omega)
           obtain ⟨p1, p2, p3, p4⟩ := id kA2
           obtain ⟨p5, p6, p7, p8⟩ := id kB2))
    all_goals (go_wp2_with fail; go_meet)
    all_goals (have hAf := after_put (a0 := .bool (decide (X < 0))) (a1 := .slice o1 (glim 4294967296 X.natAbs).length c1) (b0 := .bool (decide (Y < 0))) (b1 := .slice o2 (glim 4294967296 Y.natAbs).length c2) hB0 (by omega) b2; exact ⟨⟨o1, c1, o2, c2, (boxes_put kA kB (by omega) b2).1, (boxes_put kA kB (by omega) b2).2, (L1'.box kA2 _ _).box (kB2.far (by omega)) _ _, (L2.box kA2 _ _).box (kB2.far (by omega)) _ _, z1, z2, q1, q2⟩, hAf⟩)
  case rest =>
    obtain ⟨⟨o1, c1, o2, c2, kA', kB', L1, L2, z1, z2, q1, q2⟩, hAf⟩ := hcut
    have hsz := hAf.2.1
    have hBx := hAf.2.2
    clear hAf kA kB f1 f2 f3 f4 f5 f6 f7 f8 hB0 hA hB
    have bA := kA'.lt
    obtain ⟨f1, f2, f3, f4⟩ := id kA'
    obtain ⟨f5, f6, f7, f8⟩ := id kB'
    by_cases hx : X < 0
    · have hdx : decide (X < 0) = true := by simp [hx]
      rw [hdx] at f1 kA'
      by_cases hy : Y < 0
      · have hdy : decide (Y < 0) = true := by simp [hy]
        rw [hdy] at f5
        have hres : R = cmpZ (Y.natAbs : Int) (X.natAbs : Int) := by
          rw [← hRH.out, ← cmpZ_neg]; congr 1 <;> omega
        have Hres := hid hres
        clear hx hy hdx hdy hRH hres
        go_wp2_with fail
        refine (mags_w o1 o2 c1 c2 _ _ _ (by omega) (by omega) L1 L2).mono ?_
        rintro e wd ⟨rfl, bd⟩
        obtain ⟨g1, g2, g3, g4⟩ := id (kA'.below bd bA)
        go_wp2
        go_ret
        exact ⟨by rw [Hres.out]; exact congrArg (fun z => Ending.returned (Value.int .i64 z)) (wrap_cmp _ _), below_and hBx (Nat.le_refl _) bd⟩
      · have hdy : decide (Y < 0) = false := by simp [hy]
        rw [hdy] at f5
        have hres : R = -1 := by rw [← hRH.out, cmpZ_lt (by omega)]
        clear hx hy hdx hdy hRH
        go_wp2
        go_ret
        exact ⟨by rw [hres]; rfl, hBx⟩
    · have hdx : decide (X < 0) = false := by simp [hx]
      rw [hdx] at f1 kA'
      by_cases hy : Y < 0
      · have hdy : decide (Y < 0) = true := by simp [hy]
        rw [hdy] at f5
        have hres : R = 1 := by rw [← hRH.out, cmpZ_gt (by omega)]
        clear hx hy hdx hdy hRH
        go_wp2
        go_ret
        exact ⟨by rw [hres]; rfl, hBx⟩
      · have hdy : decide (Y < 0) = false := by simp [hy]
        rw [hdy] at f5
        have hres : R = cmpZ (X.natAbs : Int) (Y.natAbs : Int) := by
          rw [← hRH.out]; congr 1 <;> omega
        have Hres := hid hres
        clear hx hy hdx hdy hRH hres
        go_wp2_with fail
        refine (mags_w o1 o2 c1 c2 _ _ _ (by omega) (by omega) L1 L2).mono ?_
        rintro e wd ⟨rfl, bd⟩
        obtain ⟨g1, g2, g3, g4⟩ := id (kA'.below bd bA)
        go_wp2
        go_ret
        exact ⟨by rw [Hres.out]; rfl, below_and hBx (Nat.le_refl _) bd⟩
end Go.Proofs.Ytccogdlmlegmbaa
