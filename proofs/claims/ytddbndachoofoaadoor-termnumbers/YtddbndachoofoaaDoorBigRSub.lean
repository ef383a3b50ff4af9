/- Sub, CompareNum of the reference. -/
import Derived.Test.YtddbndachoofoaaDoorBigRAdd
namespace Go.Proofs.YtddbndachoofoaaDoor
open Go.ChangeShapes Go.WideShapes Go.ChangeAt Go.RowKit
set_option linter.unusedSimpArgs false
set_option linter.unusedVariables false
theorem Box.set1c {g k : Nat} {u v x : Value} {w : World} (h : Box g u v w) (hne : g ≠ k) : Box g u v (w.setCell ⟨k, 0, none⟩ x) :=
  ⟨(World.cell?_setCell_other _ _ _ _ (by first | (simp; done) | (simp; omega))).trans h.1, (World.cell?_setCell_other _ _ _ _ (by first | (simp; done) | (simp; omega))).trans h.2.1, (frozen_set _ _ rfl _ _).trans h.2.2.1, (frozen_set _ _ rfl _ _).trans h.2.2.2⟩
theorem wrap_cmp (x y : Int) : wrap64 (-cmpZ x y) = cmpZ y x := by
  rw [cmpZ_swap]
  unfold cmpZ wrap64
  split <;> (try split) <;> omega
set_option maxHeartbeats 1000000 in
theorem rcmp_w (va vb : Value) (X Y : Int) (kk : Nat) (w : World) (hK : kk ≤ 1000000) (ha : IsN va X kk w) (hb : IsN vb Y kk w) :
    Calls Tryd.prog 67 #[va, vb] w fun e w' => e = .returned (.int .i64 (cmpZ X Y)) ∧ Below w.heap.size w w' := by
  have hA : ∀ w', Below w.heap.size w w' → IsN va X kk w' := fun w' hw => ha.below hw
  have hB : ∀ w', Below w.heap.size w w' → IsN vb Y kk w' := fun w' hw => hb.below hw
  obtain ⟨na, oa, la, ca, rfl, hLa, hca, hma, hsa, hka⟩ := ha
  obtain ⟨nb, ob, lb, cb, rfl, hLb, hcb, hmb, hsb, hkb⟩ := hb
  clear hsa hsb hma hmb hLa hLb hca hcb hka hkb
  obtain ⟨kA, kB, hB0, hz0⟩ := boxes2 w (.bool na) (.slice oa la.length ca) (.bool nb) (.slice ob lb.length cb) 44 44
  obtain ⟨R, hR⟩ : ∃ R, cmpZ X Y = R := ⟨_, rfl⟩
  rw [hR]
  have hRH := hid hR
  clear hR
  go_enter Tryd.func67, Tryd.ntmps67
  go_wp2
  generalize ((w.alloc (.cells #[.bool na, .slice oa la.length ca] 44)).alloc (.cells #[.bool nb, .slice ob lb.length cb] 44)) = W0 at *
  obtain ⟨f1, f2, f3, f4⟩ := id kA
  obtain ⟨f5, f6, f7, f8⟩ := id kB
  go_cut [] from 6 to 9 (fun wx => Two X Y kk w wx ∧ After w W0 wx)
  case first =>
    go_region_with (first
        | (go_at_call_of 35 oa
           refine (rnorm_w _ X kk _ (by omega) (hA _ hB0.drew)).mono ?_
           rintro e w1 ⟨s1, rfl, hF1, q1, b1'⟩
           have b1 : Below W0.heap.size W0 w1 := ((Below.refl _ W0).drew).trans b1'
           clear b1'
           obtain ⟨o1, c1, rfl, L1, z1, _⟩ := hF1.parts
           have hB1 : Below w.heap.size w w1 := below_and hB0 (Nat.le_refl _) b1
           have hz1 := b1.size
           obtain ⟨p1, p2, p3, p4⟩ := kA.below b1 (by omega)
           obtain ⟨p5, p6, p7, p8⟩ := kB.below b1 (by omega))
        | (go_at_call_of 35 ob
           refine (rnorm_w _ Y kk _ (by omega) (hB _ hB1)).mono ?_
           rintro e w2 ⟨s2, rfl, hF2, q2, b2'⟩
           have b2 : Below W0.heap.size W0 w2 := below_and b1 (Nat.le_refl _) b2'
           have L1' := L1.below b2'
           clear b2' p1 p2 p3 p4 p5 p6 p7 p8
           obtain ⟨o2, c2, rfl, L2, z2, _⟩ := hF2.parts
           have kA2 := kA.below b2 (by omega)
           have kB2 := kB.below b2 (by omega)
           obtain ⟨p1, p2, p3, p4⟩ := id kA2
           obtain ⟨p5, p6, p7, p8⟩ := id kB2))
    all_goals (go_wp2_with fail; go_meet)
    all_goals (have hAf := after_put (a0 := .bool (decide (X < 0))) (a1 := .slice o1 (glim 4294967296 X.natAbs).length c1) (b0 := .bool (decide (Y < 0))) (b1 := .slice o2 (glim 4294967296 Y.natAbs).length c2) hB0 (by omega) b2; exact ⟨⟨o1, c1, o2, c2, (boxes_put kA kB (by omega) b2).1, (boxes_put kA kB (by omega) b2).2, (L1'.box kA2 _ _).box (kB2.far (by omega)) _ _, (L2.box kA2 _ _).box (kB2.far (by omega)) _ _, z1, z2, q1, q2⟩, hAf⟩)
  case rest =>
    obtain ⟨⟨o1, c1, o2, c2, kA', kB', L1, L2, z1, z2, q1, q2⟩, hAf⟩ := hcut
    have hsz := hAf.2.1
    have hBx := hAf.2.2
    clear hAf kA kB f1 f2 f3 f4 f5 f6 f7 f8 hB0 hA hB
    have bA := kA'.lt
    obtain ⟨f1, f2, f3, f4⟩ := id kA'
    obtain ⟨f5, f6, f7, f8⟩ := id kB'
    by_cases hx : X < 0
    · have hdx : decide (X < 0) = true := by simp [hx]
      rw [hdx] at f1 kA'
      by_cases hy : Y < 0
      · have hdy : decide (Y < 0) = true := by simp [hy]
        rw [hdy] at f5
        have hres : R = cmpZ (Y.natAbs : Int) (X.natAbs : Int) := by
          rw [← hRH.out, ← cmpZ_neg]; congr 1 <;> omega
        have Hres := hid hres
        clear hx hy hdx hdy hRH hres
        go_wp2_with fail
        refine (mags_w o1 o2 c1 c2 _ _ _ (by omega) (by omega) L1 L2).mono ?_
        rintro e wd ⟨rfl, bd⟩
        obtain ⟨g1, g2, g3, g4⟩ := id (kA'.below bd bA)
        go_wp2
        go_ret
        exact ⟨by rw [Hres.out]; exact congrArg (fun z => Ending.returned (Value.int .i64 z)) (wrap_cmp _ _), below_and hBx (Nat.le_refl _) bd⟩
      · have hdy : decide (Y < 0) = false := by simp [hy]
        rw [hdy] at f5
        have hres : R = -1 := by rw [← hRH.out, cmpZ_lt (by omega)]
        clear hx hy hdx hdy hRH
        go_wp2
        go_ret
        exact ⟨by rw [hres]; rfl, hBx⟩
    · have hdx : decide (X < 0) = false := by simp [hx]
      rw [hdx] at f1 kA'
      by_cases hy : Y < 0
      · have hdy : decide (Y < 0) = true := by simp [hy]
        rw [hdy] at f5
        have hres : R = 1 := by rw [← hRH.out, cmpZ_gt (by omega)]
        clear hx hy hdx hdy hRH
        go_wp2
        go_ret
        exact ⟨by rw [hres]; rfl, hBx⟩
      · have hdy : decide (Y < 0) = false := by simp [hy]
        rw [hdy] at f5
        have hres : R = cmpZ (X.natAbs : Int) (Y.natAbs : Int) := by
          rw [← hRH.out]; congr 1 <;> omega
        have Hres := hid hres
        clear hx hy hdx hdy hRH hres
        go_wp2_with fail
        refine (mags_w o1 o2 c1 c2 _ _ _ (by omega) (by omega) L1 L2).mono ?_
        rintro e wd ⟨rfl, bd⟩
        obtain ⟨g1, g2, g3, g4⟩ := id (kA'.below bd bA)
        go_wp2
        go_ret
        exact ⟨by rw [Hres.out]; rfl, below_and hBx (Nat.le_refl _) bd⟩
end Go.Proofs.YtddbndachoofoaaDoor
