/- Add and Sub of the reference. -/
import Derived.Test.YtccogdlmlegmbaaBigRMinus
import Derived.Test.YtccogdlmlegmbaaBigOrd
namespace Go.Proofs.Ytccogdlmlegmbaa
open Go.ChangeShapes Go.WideShapes Go.ChangeAt Go.RowKit
set_option linter.unusedSimpArgs false
set_option linter.unusedVariables false
set_option maxHeartbeats 1000000 in
theorem radd_w (va vb : Value) (X Y : Int) (kk : Nat) (w : World) (hK : kk + 1 ≤ 1000000) (ha : IsN va X kk w) (hb : IsN vb Y kk w) :
    Calls Try.prog 23 #[va, vb] w fun e w' => ∃ v', e = .returned v' ∧ IsC v' (X + Y) (kk + 1) w' ∧ Below w.heap.size w w' := by
  have hA : ∀ w', Below w.heap.size w w' → IsN va X kk w' := fun w' hw => ha.below hw
  have hB : ∀ w', Below w.heap.size w w' → IsN vb Y kk w' := fun w' hw => hb.below hw
  obtain ⟨na, oa, la, ca, rfl, hLa, hca, hma, hsa, hka⟩ := ha
  obtain ⟨nb, ob, lb, cb, rfl, hLb, hcb, hmb, hsb, hkb⟩ := hb
  clear hsa hsb hma hmb hLa hLb hca hcb hka hkb
  obtain ⟨kA, kB, kC, hB0, hz0⟩ := boxes3 w (.bool na) (.slice oa la.length ca) (.bool nb) (.slice ob lb.length cb) (.bool false) (.slice none 0 0) 34 34 34
  go_enter Try.func23, Try.ntmps23
  go_wp2
  generalize (((w.alloc (.cells #[.bool na, .slice oa la.length ca] 34)).alloc (.cells #[.bool nb, .slice ob lb.length cb] 34)).alloc (.cells #[.bool false, .slice none 0 0] 34)) = W0 at *
  obtain ⟨f1, f2, f3, f4⟩ := id kA
  obtain ⟨f5, f6, f7, f8⟩ := id kB
  go_cut [] from 5 to 8 (fun wx => Two X Y kk w wx ∧ After w W0 wx)
  case first =>
    go_region_with (first
        | (go_at_call_of 28 oa
           refine (rnorm_w _ X kk _ (by omega) (hA _ hB0.drew)).mono ?_
           rintro e w1 ⟨s1, rfl, hF1, q1, b1'⟩
           have b1 : Below W0.heap.size W0 w1 := ((Below.refl _ W0).drew).trans b1'
           clear b1'
           obtain ⟨o1, c1, rfl, L1, z1, _⟩ := hF1.parts
           have hB1 : Below w.heap.size w w1 := below_and hB0 (Nat.le_refl _) b1
           have hz1 := b1.size
           obtain ⟨p1, p2, p3, p4⟩ := kA.below b1 (by omega)
           obtain ⟨p5, p6, p7, p8⟩ := kB.below b1 (by omega))
        | (go_at_call_of 28 ob
           refine (rnorm_w _ Y kk _ (by omega) (hB _ hB1)).mono ?_
           rintro e w2 ⟨s2, rfl, hF2, q2, b2'⟩
           have b2 : Below W0.heap.size W0 w2 := below_and b1 (Nat.le_refl _) b2'
           have L1' := L1.below b2'
           clear b2' p1 p2 p3 p4 p5 p6 p7 p8
           obtain ⟨o2, c2, rfl, L2, z2, _⟩ := hF2.parts
           have kA2 := kA.below b2 (by omega)
           have kB2 := kB.below b2 (by omega)
           obtain ⟨p1, p2, p3, p4⟩ := id kA2
           obtain ⟨p5, p6, p7, p8⟩ := id kB2))
    all_goals (go_wp2_with fail; go_meet)
    all_goals (have hAf := after_put (a0 := .bool (decide (X < 0))) (a1 := .slice o1 (glim 4294967296 X.natAbs).length c1) (b0 := .bool (decide (Y < 0))) (b1 := .slice o2 (glim 4294967296 Y.natAbs).length c2) hB0 (by omega) b2; exact ⟨⟨o1, c1, o2, c2, (boxes_put kA kB (by omega) b2).1, (boxes_put kA kB (by omega) b2).2, (L1'.box kA2 _ _).box (kB2.far (by omega)) _ _, (L2.box kA2 _ _).box (kB2.far (by omega)) _ _, z1, z2, q1, q2⟩, hAf⟩)
  case rest =>
    obtain ⟨⟨o1, c1, o2, c2, kA', kB', L1, L2, z1, z2, q1, q2⟩, hAf⟩ := hcut
    have kC' := hAf.1 _ _ _ (by omega) (by omega) kC
    have hsz := hAf.2.1
    have hBx := hAf.2.2
    clear hAf kA kB kC f1 f2 f3 f4 f5 f6 f7 f8 hB0 hA hB
    obtain ⟨f1, f2, f3, f4⟩ := id kA'
    obtain ⟨f5, f6, f7, f8⟩ := id kB'
    by_cases hs : decide (X < 0) = decide (Y < 0)
    · have hs' : (decide (X < 0) == decide (Y < 0)) = true := by rw [hs]; simp
      have hsv := sv_add_same hs
      clear hs
      have hS : Hid (∀ w', Below wc.heap.size wc w' → w'.cell? ⟨w.heap.size, 0, none⟩ = some (.bool (decide (X < 0))) ∧ w'.cell? ⟨w.heap.size, 1, none⟩ = some (.slice o1 (glim 4294967296 X.natAbs).length c1) ∧ w'.cell? ⟨w.heap.size + 1, 0, none⟩ = some (.bool (decide (Y < 0))) ∧ w'.cell? ⟨w.heap.size + 1, 1, none⟩ = some (.slice o2 (glim 4294967296 Y.natAbs).length c2)) := fun w' hb => ⟨(kA'.below hb (by omega)).1, (kA'.below hb (by omega)).2.1, (kB'.below hb (by omega)).1, (kB'.below hb (by omega)).2.1⟩
      go_wp2
      refine wp_region_held_drew (S := fun w' => w'.cell? ⟨w.heap.size, 0, none⟩ = some (.bool (decide (X < 0))) ∧ w'.cell? ⟨w.heap.size, 1, none⟩ = some (.slice o1 (glim 4294967296 X.natAbs).length c1) ∧ w'.cell? ⟨w.heap.size + 1, 0, none⟩ = some (.bool (decide (Y < 0))) ∧ w'.cell? ⟨w.heap.size + 1, 1, none⟩ = some (.slice o2 (glim 4294967296 Y.natAbs).length c2)) (by kernel_rfl) (hS.out _ (Below.refl _ _).drew) (fun hHeld => ?_)
      refine wpAnyH_take (i := 0) (oi := _) (v := ?_) rfl (by kernel_rfl) (by kernel_rfl) (by kernel_rfl) (fun _ _ _ h => h) (Or.inl ⟨by rfl, ?_⟩) (by assumption) ?_
      rotate_left 1
      · (intro w hSw; (try dsimp only at hSw); go_simp; try with_reducible rfl)
      try simp (maxSteps := 10000000) only [List.getElem_toArray, List.getElem_cons_succ, List.getElem_cons_zero, Act.put, List.setIfInBounds_toArray, List.set_cons_zero, List.set_cons_succ]
      refine wpAnyH_take (i := 1) (oi := _) (v := ?_) rfl (by kernel_rfl) (by kernel_rfl) (by kernel_rfl) (fun _ _ _ h => h) (Or.inl ⟨by rfl, ?_⟩) (by assumption) ?_
      rotate_left 1
      · (intro w hSw; (try dsimp only at hSw); go_simp; try with_reducible rfl)
      try simp (maxSteps := 10000000) only [List.getElem_toArray, List.getElem_cons_succ, List.getElem_cons_zero, Act.put, List.setIfInBounds_toArray, List.set_cons_zero, List.set_cons_succ]
      refine wpAnyH_take (i := 2) (oi := _) (v := ?_) rfl (by kernel_rfl) (by kernel_rfl) (by kernel_rfl) (fun _ _ _ h => h) (Or.inl ⟨by rfl, ?_⟩) (by assumption) ?_
      rotate_left 1
      · (intro w hSw; (try dsimp only at hSw); go_simp; try with_reducible rfl)
      try simp (maxSteps := 10000000) only [List.getElem_toArray, List.getElem_cons_succ, List.getElem_cons_zero, Act.put, List.setIfInBounds_toArray, List.set_cons_zero, List.set_cons_succ]
      refine wpAnyH_take (i := 3) (oi := _) (v := ?_) rfl (by kernel_rfl) (by kernel_rfl) (by kernel_rfl) (fun _ _ _ h => h) (Or.inl ⟨by rfl, ?_⟩) (by assumption) ?_
      rotate_left 1
      · (intro w hSw; (try dsimp only at hSw); go_simp; try with_reducible rfl)
      try simp (maxSteps := 10000000) only [List.getElem_toArray, List.getElem_cons_succ, List.getElem_cons_zero, Act.put, List.setIfInBounds_toArray, List.set_cons_zero, List.set_cons_succ]
      refine wpAnyH_take (i := 4) (oi := _) (v := ?_) rfl (by kernel_rfl) (by kernel_rfl) (by kernel_rfl) (fun _ _ _ h => h) (Or.inl ⟨by rfl, ?_⟩) (by assumption) ?_
      rotate_left 1
      · (intro w hSw; (try dsimp only at hSw); go_simp; try with_reducible rfl)
      try simp (maxSteps := 10000000) only [List.getElem_toArray, List.getElem_cons_succ, List.getElem_cons_zero, Act.put, List.setIfInBounds_toArray, List.set_cons_zero, List.set_cons_succ]
      refine wpAnyH_take (i := 5) (oi := _) (v := ?_) rfl (by kernel_rfl) (by kernel_rfl) (by kernel_rfl) (fun _ _ _ h => h) (Or.inl ⟨by rfl, ?_⟩) (by assumption) ?_
      rotate_left 1
      · (intro w hSw; (try dsimp only at hSw); go_simp; try with_reducible rfl)
      try simp (maxSteps := 10000000) only [List.getElem_toArray, List.getElem_cons_succ, List.getElem_cons_zero, Act.put, List.setIfInBounds_toArray, List.set_cons_zero, List.set_cons_succ]
      refine wpAnyH_ready (rs := [6]) (by kernel_rfl) (by simp) ?_
      refine AllReadyH.cons rfl (fun K hK => ?_) AllReadyH.nil
      go_simp
      refine (plus_w o1 o2 c1 c2 _ _ _ (lm_glim (by omega) _) (lm_glim (by omega) _) (by omega) (by omega) L1.drew L2.drew).mono ?_
      rintro e w3 ⟨v3, L, rfl, hF3, hLm, hLv, hLl, _, b3'⟩
      have hLk : L.length ≤ kk + 1 := by omega
      clear hLl
      have b3 : Below wc.heap.size wc w3 := below_of_drew b3'
      clear b3'
      rw [gval_glim (by omega), gval_glim (by omega)] at hLv
      obtain ⟨o3, c3, rfl, L3, z3, _⟩ := hF3.parts
      have hN3 := (IsN.of_open (neg := (decide (X < 0))) (K := kk + 1) L3 z3 hLm hLk)
      rw [hLv, hsv] at hN3
      have hLv' := hid hLv
      clear hLv
      try go_simp
      refine hK.out _ _ ?_ (fun hHeld => ?_)
      · first | exact hSF | exact hS.out _ (by assumption) | assumption | go_keep
      clear hK K
      try simp (maxSteps := 10000000) only [List.getElem_toArray, List.getElem_cons_succ, List.getElem_cons_zero, Act.put, List.setIfInBounds_toArray, List.set_cons_zero, List.set_cons_succ]
      refine wpAnyH_take (i := 7) (oi := _) (v := ?_) rfl (by kernel_rfl) (by kernel_rfl) (by kernel_rfl) (fun _ _ _ h => h) (Or.inl ⟨by rfl, ?_⟩) (by assumption) ?_
      rotate_left 1
      · (intro w hSw; (try dsimp only at hSw); go_simp; try with_reducible rfl)
      try simp (maxSteps := 10000000) only [List.getElem_toArray, List.getElem_cons_succ, List.getElem_cons_zero, Act.put, List.setIfInBounds_toArray, List.set_cons_zero, List.set_cons_succ]
      refine wpAnyH_ready (rs := [8]) (by kernel_rfl) (by simp) ?_
      refine AllReadyH.cons rfl (fun K hK => ?_) AllReadyH.nil
      go_simp
      refine (rnorm_w _ (X + Y) (kk + 1) _ (by omega) hN3).mono ?_
      rintro e w4 ⟨s4, rfl, hF4, hk4, b4'⟩
      have b4 : Below wc.heap.size wc w4 := below_and b3 (Nat.le_refl _) b4'
      have hC4 := hF4.isC hk4
      obtain ⟨o4, c4, rfl, _, _, _⟩ := hF4.parts
      obtain ⟨d4, hd4⟩ : ∃ d, decide (X + Y < 0) = d := ⟨_, rfl⟩
      obtain ⟨n4, hn4⟩ : ∃ n, (glim 4294967296 (X + Y).natAbs).length = n := ⟨_, rfl⟩
      rw [hd4, hn4] at hC4 ⊢
      clear hd4 hn4
      have kA4 := kA'.below b4 (by omega)
      have kB4 := kB'.below b4 (by omega)
      have kC4 := kC'.below b4 (by omega)
      obtain ⟨g1, g2, g3, g4⟩ := id kC4
      try go_simp
      refine hK.out _ _ ?_ (fun hHeld => ?_)
      · first | exact hSF | exact hS.out _ (by assumption) | assumption | go_keep
      clear hK K
      try simp (maxSteps := 10000000) only [List.getElem_toArray, List.getElem_cons_succ, List.getElem_cons_zero, Act.put, List.setIfInBounds_toArray, List.set_cons_zero, List.set_cons_succ]
      refine wpAnyH_ready (rs := [9]) (by kernel_rfl) (by simp) ?_
      refine AllReadyH.cons rfl (fun K hK => ?_) AllReadyH.nil
      go_simp
      have hBf := ((below_and hBx (Nat.le_refl _) b4).setCell (p := ⟨w.heap.size + 1 + 1, 0, none⟩) (by simp; omega) (.bool d4)).setCell (p := ⟨w.heap.size + 1 + 1, 1, none⟩) (by simp; omega) (.slice o4 n4 c4)
      have kCf := kC4.put (u' := .bool d4) (v' := .slice o4 n4 c4)
      have kAf := kA4.far (k := w.heap.size + 1 + 1) (x := .bool d4) (y := .slice o4 n4 c4) (by omega)
      have kBf := kB4.far (k := w.heap.size + 1 + 1) (x := .bool d4) (y := .slice o4 n4 c4) (by omega)
      have hCf := hC4.box kC4 (x := .bool d4) (y := .slice o4 n4 c4)
      clear g1 g2 g3 g4 kA4 kB4 kC4
      generalize ((w4.setCell ⟨w.heap.size + 1 + 1, 0, none⟩ (.bool d4)).setCell ⟨w.heap.size + 1 + 1, 1, none⟩ (.slice o4 n4 c4)) = wF at *
      have hSF := And.intro kAf.1 (And.intro kAf.2.1 (And.intro kBf.1 kBf.2.1))
      obtain ⟨g1, g2, g3, g4⟩ := id kCf
      try go_simp
      refine hK.out _ _ ?_ (fun hHeld => ?_)
      · first | exact hSF | exact hS.out _ (by assumption) | assumption | go_keep
      clear hK K
      try simp (maxSteps := 10000000) only [List.getElem_toArray, List.getElem_cons_succ, List.getElem_cons_zero, Act.put, List.setIfInBounds_toArray, List.set_cons_zero, List.set_cons_succ]
      refine wpAnyH_done (by kernel_rfl) ?_ _
      go_wp2
      refine bodyPost_ret (v := .agg #[.bool d4, .slice o4 n4 c4]) (by simp [results, Try.results23, go_sem, g1, g2]) rfl ⟨_, rfl, hCf, hBf⟩
    · have hs' : (decide (X < 0) == decide (Y < 0)) = false := by simpa using hs
      go_wp2_with fail
      refine (mags_w o1 o2 c1 c2 _ _ _ (by omega) (by omega) L1 L2).mono ?_
      rintro e wd ⟨rfl, bd⟩
      have hBx' : Below w.heap.size w wd := below_and hBx (Nat.le_refl _) bd
      have kA2 := kA'.below bd (by omega)
      have kB2 := kB'.below bd (by omega)
      have kC2 := kC'.below bd (by omega)
      have L1' := L1.below bd
      have L2' := L2.below bd
      have hsz' := bd.size
      have hz' : w.heap.size + 3 ≤ wd.heap.size := by omega
      clear f1 f2 f3 f4 f5 f6 f7 f8 kA' kB' kC' hBx bd L1 L2 hsz hsz'
      have hBx := hBx'
      have kA' := kA2
      have kB' := kB2
      have kC' := kC2
      have L1 := L1'
      have L2 := L2'
      clear hBx' kA2 kB2 kC2 L1' L2'
      clear wc
      obtain ⟨wc, rfl⟩ : ∃ x, x = wd := ⟨_, rfl⟩
      obtain ⟨f1, f2, f3, f4⟩ := id kA'
      obtain ⟨f5, f6, f7, f8⟩ := id kB'
      have hS : Hid (∀ w', Below wc.heap.size wc w' → w'.cell? ⟨w.heap.size, 0, none⟩ = some (.bool (decide (X < 0))) ∧ w'.cell? ⟨w.heap.size, 1, none⟩ = some (.slice o1 (glim 4294967296 X.natAbs).length c1) ∧ w'.cell? ⟨w.heap.size + 1, 0, none⟩ = some (.bool (decide (Y < 0))) ∧ w'.cell? ⟨w.heap.size + 1, 1, none⟩ = some (.slice o2 (glim 4294967296 Y.natAbs).length c2)) := fun w' hb => ⟨(kA'.below hb (by omega)).1, (kA'.below hb (by omega)).2.1, (kB'.below hb (by omega)).1, (kB'.below hb (by omega)).2.1⟩
      by_cases hlt : X.natAbs < Y.natAbs
      · have hc : cmpZ (X.natAbs : Int) (Y.natAbs : Int) = -1 := cmpZ_lt (by omega)
        have hsv := sv_add_sub (fun e => hs e.symm) (by omega : X.natAbs ≤ Y.natAbs)
        rw [Int.add_comm] at hsv
        rw [hc]
        have hlen : (glim 4294967296 X.natAbs).length ≤ (glim 4294967296 Y.natAbs).length := Nat.le_of_not_lt fun h => by have := glim_len_lt (by omega) h; omega
        have hle : X.natAbs ≤ Y.natAbs := by omega
        clear hs hc
        go_wp2
        refine wp_region_held_drew (S := fun w' => w'.cell? ⟨w.heap.size, 0, none⟩ = some (.bool (decide (X < 0))) ∧ w'.cell? ⟨w.heap.size, 1, none⟩ = some (.slice o1 (glim 4294967296 X.natAbs).length c1) ∧ w'.cell? ⟨w.heap.size + 1, 0, none⟩ = some (.bool (decide (Y < 0))) ∧ w'.cell? ⟨w.heap.size + 1, 1, none⟩ = some (.slice o2 (glim 4294967296 Y.natAbs).length c2)) (by kernel_rfl) (hS.out _ (Below.refl _ _).drew) (fun hHeld => ?_)
        refine wpAnyH_take (i := 0) (oi := _) (v := ?_) rfl (by kernel_rfl) (by kernel_rfl) (by kernel_rfl) (fun _ _ _ h => h) (Or.inl ⟨by rfl, ?_⟩) (by assumption) ?_
        rotate_left 1
        · (intro w hSw; (try dsimp only at hSw); go_simp; try with_reducible rfl)
        try simp (maxSteps := 10000000) only [List.getElem_toArray, List.getElem_cons_succ, List.getElem_cons_zero, Act.put, List.setIfInBounds_toArray, List.set_cons_zero, List.set_cons_succ]
        refine wpAnyH_take (i := 1) (oi := _) (v := ?_) rfl (by kernel_rfl) (by kernel_rfl) (by kernel_rfl) (fun _ _ _ h => h) (Or.inl ⟨by rfl, ?_⟩) (by assumption) ?_
        rotate_left 1
        · (intro w hSw; (try dsimp only at hSw); go_simp; try with_reducible rfl)
        try simp (maxSteps := 10000000) only [List.getElem_toArray, List.getElem_cons_succ, List.getElem_cons_zero, Act.put, List.setIfInBounds_toArray, List.set_cons_zero, List.set_cons_succ]
        refine wpAnyH_take (i := 2) (oi := _) (v := ?_) rfl (by kernel_rfl) (by kernel_rfl) (by kernel_rfl) (fun _ _ _ h => h) (Or.inl ⟨by rfl, ?_⟩) (by assumption) ?_
        rotate_left 1
        · (intro w hSw; (try dsimp only at hSw); go_simp; try with_reducible rfl)
        try simp (maxSteps := 10000000) only [List.getElem_toArray, List.getElem_cons_succ, List.getElem_cons_zero, Act.put, List.setIfInBounds_toArray, List.set_cons_zero, List.set_cons_succ]
        refine wpAnyH_take (i := 3) (oi := _) (v := ?_) rfl (by kernel_rfl) (by kernel_rfl) (by kernel_rfl) (fun _ _ _ h => h) (Or.inl ⟨by rfl, ?_⟩) (by assumption) ?_
        rotate_left 1
        · (intro w hSw; (try dsimp only at hSw); go_simp; try with_reducible rfl)
        try simp (maxSteps := 10000000) only [List.getElem_toArray, List.getElem_cons_succ, List.getElem_cons_zero, Act.put, List.setIfInBounds_toArray, List.set_cons_zero, List.set_cons_succ]
        refine wpAnyH_take (i := 4) (oi := _) (v := ?_) rfl (by kernel_rfl) (by kernel_rfl) (by kernel_rfl) (fun _ _ _ h => h) (Or.inl ⟨by rfl, ?_⟩) (by assumption) ?_
        rotate_left 1
        · (intro w hSw; (try dsimp only at hSw); go_simp; try with_reducible rfl)
        try simp (maxSteps := 10000000) only [List.getElem_toArray, List.getElem_cons_succ, List.getElem_cons_zero, Act.put, List.setIfInBounds_toArray, List.set_cons_zero, List.set_cons_succ]
        refine wpAnyH_take (i := 5) (oi := _) (v := ?_) rfl (by kernel_rfl) (by kernel_rfl) (by kernel_rfl) (fun _ _ _ h => h) (Or.inl ⟨by rfl, ?_⟩) (by assumption) ?_
        rotate_left 1
        · (intro w hSw; (try dsimp only at hSw); go_simp; try with_reducible rfl)
        try simp (maxSteps := 10000000) only [List.getElem_toArray, List.getElem_cons_succ, List.getElem_cons_zero, Act.put, List.setIfInBounds_toArray, List.set_cons_zero, List.set_cons_succ]
        refine wpAnyH_ready (rs := [6]) (by kernel_rfl) (by simp) ?_
        refine AllReadyH.cons rfl (fun K hK => ?_) AllReadyH.nil
        go_simp
        refine (minus_w o2 o1 c2 c1 _ _ _ (lm_glim (by omega) _) (lm_glim (by omega) _) (by omega) hlen (by rw [gval_glim (by omega), gval_glim (by omega)]; exact hle) L2.drew L1.drew).mono ?_
        rintro e w3 ⟨v3, L, rfl, hF3, hLm, hLv, hLl, b3'⟩
        have hLk : L.length ≤ kk + 1 := by omega
        clear hLl
        have b3 : Below wc.heap.size wc w3 := below_of_drew b3'
        clear b3'
        rw [gval_glim (by omega), gval_glim (by omega)] at hLv
        obtain ⟨o3, c3, rfl, L3, z3, _⟩ := hF3.parts
        have hN3 := (IsN.of_open (neg := (decide (Y < 0))) (K := kk + 1) L3 z3 hLm hLk)
        rw [hLv, hsv] at hN3
        have hLv' := hid hLv
        clear hLv
        try go_simp
        refine hK.out _ _ ?_ (fun hHeld => ?_)
        · first | exact hSF | exact hS.out _ (by assumption) | assumption | go_keep
        clear hK K
        try simp (maxSteps := 10000000) only [List.getElem_toArray, List.getElem_cons_succ, List.getElem_cons_zero, Act.put, List.setIfInBounds_toArray, List.set_cons_zero, List.set_cons_succ]
        refine wpAnyH_take (i := 7) (oi := _) (v := ?_) rfl (by kernel_rfl) (by kernel_rfl) (by kernel_rfl) (fun _ _ _ h => h) (Or.inl ⟨by rfl, ?_⟩) (by assumption) ?_
        rotate_left 1
        · (intro w hSw; (try dsimp only at hSw); go_simp; try with_reducible rfl)
        try simp (maxSteps := 10000000) only [List.getElem_toArray, List.getElem_cons_succ, List.getElem_cons_zero, Act.put, List.setIfInBounds_toArray, List.set_cons_zero, List.set_cons_succ]
        refine wpAnyH_ready (rs := [8]) (by kernel_rfl) (by simp) ?_
        refine AllReadyH.cons rfl (fun K hK => ?_) AllReadyH.nil
        go_simp
        refine (rnorm_w _ (X + Y) (kk + 1) _ (by omega) hN3).mono ?_
        rintro e w4 ⟨s4, rfl, hF4, hk4, b4'⟩
        have b4 : Below wc.heap.size wc w4 := below_and b3 (Nat.le_refl _) b4'
        have hC4 := hF4.isC hk4
        obtain ⟨o4, c4, rfl, _, _, _⟩ := hF4.parts
        obtain ⟨d4, hd4⟩ : ∃ d, decide (X + Y < 0) = d := ⟨_, rfl⟩
        obtain ⟨n4, hn4⟩ : ∃ n, (glim 4294967296 (X + Y).natAbs).length = n := ⟨_, rfl⟩
        rw [hd4, hn4] at hC4 ⊢
        clear hd4 hn4
        have kA4 := kA'.below b4 (by omega)
        have kB4 := kB'.below b4 (by omega)
        have kC4 := kC'.below b4 (by omega)
        obtain ⟨g1, g2, g3, g4⟩ := id kC4
        try go_simp
        refine hK.out _ _ ?_ (fun hHeld => ?_)
        · first | exact hSF | exact hS.out _ (by assumption) | assumption | go_keep
        clear hK K
        try simp (maxSteps := 10000000) only [List.getElem_toArray, List.getElem_cons_succ, List.getElem_cons_zero, Act.put, List.setIfInBounds_toArray, List.set_cons_zero, List.set_cons_succ]
        refine wpAnyH_ready (rs := [9]) (by kernel_rfl) (by simp) ?_
        refine AllReadyH.cons rfl (fun K hK => ?_) AllReadyH.nil
        go_simp
        have hBf := ((below_and hBx (Nat.le_refl _) b4).setCell (p := ⟨w.heap.size + 1 + 1, 0, none⟩) (by simp; omega) (.bool d4)).setCell (p := ⟨w.heap.size + 1 + 1, 1, none⟩) (by simp; omega) (.slice o4 n4 c4)
        have kCf := kC4.put (u' := .bool d4) (v' := .slice o4 n4 c4)
        have kAf := kA4.far (k := w.heap.size + 1 + 1) (x := .bool d4) (y := .slice o4 n4 c4) (by omega)
        have kBf := kB4.far (k := w.heap.size + 1 + 1) (x := .bool d4) (y := .slice o4 n4 c4) (by omega)
        have hCf := hC4.box kC4 (x := .bool d4) (y := .slice o4 n4 c4)
        clear g1 g2 g3 g4 kA4 kB4 kC4
        generalize ((w4.setCell ⟨w.heap.size + 1 + 1, 0, none⟩ (.bool d4)).setCell ⟨w.heap.size + 1 + 1, 1, none⟩ (.slice o4 n4 c4)) = wF at *
        have hSF := And.intro kAf.1 (And.intro kAf.2.1 (And.intro kBf.1 kBf.2.1))
        obtain ⟨g1, g2, g3, g4⟩ := id kCf
        try go_simp
        refine hK.out _ _ ?_ (fun hHeld => ?_)
        · first | exact hSF | exact hS.out _ (by assumption) | assumption | go_keep
        clear hK K
        try simp (maxSteps := 10000000) only [List.getElem_toArray, List.getElem_cons_succ, List.getElem_cons_zero, Act.put, List.setIfInBounds_toArray, List.set_cons_zero, List.set_cons_succ]
        refine wpAnyH_done (by kernel_rfl) ?_ _
        go_wp2
        refine bodyPost_ret (v := .agg #[.bool d4, .slice o4 n4 c4]) (by simp [results, Try.results23, go_sem, g1, g2]) rfl ⟨_, rfl, hCf, hBf⟩
      · have hc : (0 : Int) ≤ cmpZ (X.natAbs : Int) (Y.natAbs : Int) := by unfold cmpZ; rw [if_neg (by omega)]; split <;> omega
        have hsv := sv_add_sub hs (by omega : Y.natAbs ≤ X.natAbs)
        have hlen : (glim 4294967296 Y.natAbs).length ≤ (glim 4294967296 X.natAbs).length := Nat.le_of_not_lt fun h => by have := glim_len_lt (by omega) h; omega
        have hle : Y.natAbs ≤ X.natAbs := by omega
        clear hs
        go_wp2
        refine wp_region_held_drew (S := fun w' => w'.cell? ⟨w.heap.size, 0, none⟩ = some (.bool (decide (X < 0))) ∧ w'.cell? ⟨w.heap.size, 1, none⟩ = some (.slice o1 (glim 4294967296 X.natAbs).length c1) ∧ w'.cell? ⟨w.heap.size + 1, 0, none⟩ = some (.bool (decide (Y < 0))) ∧ w'.cell? ⟨w.heap.size + 1, 1, none⟩ = some (.slice o2 (glim 4294967296 Y.natAbs).length c2)) (by kernel_rfl) (hS.out _ (Below.refl _ _).drew) (fun hHeld => ?_)
        refine wpAnyH_take (i := 0) (oi := _) (v := ?_) rfl (by kernel_rfl) (by kernel_rfl) (by kernel_rfl) (fun _ _ _ h => h) (Or.inl ⟨by rfl, ?_⟩) (by assumption) ?_
        rotate_left 1
        · (intro w hSw; (try dsimp only at hSw); go_simp; try with_reducible rfl)
        try simp (maxSteps := 10000000) only [List.getElem_toArray, List.getElem_cons_succ, List.getElem_cons_zero, Act.put, List.setIfInBounds_toArray, List.set_cons_zero, List.set_cons_succ]
        refine wpAnyH_take (i := 1) (oi := _) (v := ?_) rfl (by kernel_rfl) (by kernel_rfl) (by kernel_rfl) (fun _ _ _ h => h) (Or.inl ⟨by rfl, ?_⟩) (by assumption) ?_
        rotate_left 1
        · (intro w hSw; (try dsimp only at hSw); go_simp; try with_reducible rfl)
        try simp (maxSteps := 10000000) only [List.getElem_toArray, List.getElem_cons_succ, List.getElem_cons_zero, Act.put, List.setIfInBounds_toArray, List.set_cons_zero, List.set_cons_succ]
        refine wpAnyH_take (i := 2) (oi := _) (v := ?_) rfl (by kernel_rfl) (by kernel_rfl) (by kernel_rfl) (fun _ _ _ h => h) (Or.inl ⟨by rfl, ?_⟩) (by assumption) ?_
        rotate_left 1
        · (intro w hSw; (try dsimp only at hSw); go_simp; try with_reducible rfl)
        try simp (maxSteps := 10000000) only [List.getElem_toArray, List.getElem_cons_succ, List.getElem_cons_zero, Act.put, List.setIfInBounds_toArray, List.set_cons_zero, List.set_cons_succ]
        refine wpAnyH_take (i := 3) (oi := _) (v := ?_) rfl (by kernel_rfl) (by kernel_rfl) (by kernel_rfl) (fun _ _ _ h => h) (Or.inl ⟨by rfl, ?_⟩) (by assumption) ?_
        rotate_left 1
        · (intro w hSw; (try dsimp only at hSw); go_simp; try with_reducible rfl)
        try simp (maxSteps := 10000000) only [List.getElem_toArray, List.getElem_cons_succ, List.getElem_cons_zero, Act.put, List.setIfInBounds_toArray, List.set_cons_zero, List.set_cons_succ]
        refine wpAnyH_take (i := 4) (oi := _) (v := ?_) rfl (by kernel_rfl) (by kernel_rfl) (by kernel_rfl) (fun _ _ _ h => h) (Or.inl ⟨by rfl, ?_⟩) (by assumption) ?_
        rotate_left 1
        · (intro w hSw; (try dsimp only at hSw); go_simp; try with_reducible rfl)
        try simp (maxSteps := 10000000) only [List.getElem_toArray, List.getElem_cons_succ, List.getElem_cons_zero, Act.put, List.setIfInBounds_toArray, List.set_cons_zero, List.set_cons_succ]
        refine wpAnyH_take (i := 5) (oi := _) (v := ?_) rfl (by kernel_rfl) (by kernel_rfl) (by kernel_rfl) (fun _ _ _ h => h) (Or.inl ⟨by rfl, ?_⟩) (by assumption) ?_
        rotate_left 1
        · (intro w hSw; (try dsimp only at hSw); go_simp; try with_reducible rfl)
        try simp (maxSteps := 10000000) only [List.getElem_toArray, List.getElem_cons_succ, List.getElem_cons_zero, Act.put, List.setIfInBounds_toArray, List.set_cons_zero, List.set_cons_succ]
        refine wpAnyH_ready (rs := [6]) (by kernel_rfl) (by simp) ?_
        refine AllReadyH.cons rfl (fun K hK => ?_) AllReadyH.nil
        go_simp
        refine (minus_w o1 o2 c1 c2 _ _ _ (lm_glim (by omega) _) (lm_glim (by omega) _) (by omega) hlen (by rw [gval_glim (by omega), gval_glim (by omega)]; exact hle) L1.drew L2.drew).mono ?_
        rintro e w3 ⟨v3, L, rfl, hF3, hLm, hLv, hLl, b3'⟩
        have hLk : L.length ≤ kk + 1 := by omega
        clear hLl
        have b3 : Below wc.heap.size wc w3 := below_of_drew b3'
        clear b3'
        rw [gval_glim (by omega), gval_glim (by omega)] at hLv
        obtain ⟨o3, c3, rfl, L3, z3, _⟩ := hF3.parts
        have hN3 := (IsN.of_open (neg := (decide (X < 0))) (K := kk + 1) L3 z3 hLm hLk)
        rw [hLv, hsv] at hN3
        have hLv' := hid hLv
        clear hLv
        try go_simp
        refine hK.out _ _ ?_ (fun hHeld => ?_)
        · first | exact hSF | exact hS.out _ (by assumption) | assumption | go_keep
        clear hK K
        try simp (maxSteps := 10000000) only [List.getElem_toArray, List.getElem_cons_succ, List.getElem_cons_zero, Act.put, List.setIfInBounds_toArray, List.set_cons_zero, List.set_cons_succ]
        refine wpAnyH_take (i := 7) (oi := _) (v := ?_) rfl (by kernel_rfl) (by kernel_rfl) (by kernel_rfl) (fun _ _ _ h => h) (Or.inl ⟨by rfl, ?_⟩) (by assumption) ?_
        rotate_left 1
        · (intro w hSw; (try dsimp only at hSw); go_simp; try with_reducible rfl)
        try simp (maxSteps := 10000000) only [List.getElem_toArray, List.getElem_cons_succ, List.getElem_cons_zero, Act.put, List.setIfInBounds_toArray, List.set_cons_zero, List.set_cons_succ]
        refine wpAnyH_ready (rs := [8]) (by kernel_rfl) (by simp) ?_
        refine AllReadyH.cons rfl (fun K hK => ?_) AllReadyH.nil
        go_simp
        refine (rnorm_w _ (X + Y) (kk + 1) _ (by omega) hN3).mono ?_
        rintro e w4 ⟨s4, rfl, hF4, hk4, b4'⟩
        have b4 : Below wc.heap.size wc w4 := below_and b3 (Nat.le_refl _) b4'
        have hC4 := hF4.isC hk4
        obtain ⟨o4, c4, rfl, _, _, _⟩ := hF4.parts
        obtain ⟨d4, hd4⟩ : ∃ d, decide (X + Y < 0) = d := ⟨_, rfl⟩
        obtain ⟨n4, hn4⟩ : ∃ n, (glim 4294967296 (X + Y).natAbs).length = n := ⟨_, rfl⟩
        rw [hd4, hn4] at hC4 ⊢
        clear hd4 hn4
        have kA4 := kA'.below b4 (by omega)
        have kB4 := kB'.below b4 (by omega)
        have kC4 := kC'.below b4 (by omega)
        obtain ⟨g1, g2, g3, g4⟩ := id kC4
        try go_simp
        refine hK.out _ _ ?_ (fun hHeld => ?_)
        · first | exact hSF | exact hS.out _ (by assumption) | assumption | go_keep
        clear hK K
        try simp (maxSteps := 10000000) only [List.getElem_toArray, List.getElem_cons_succ, List.getElem_cons_zero, Act.put, List.setIfInBounds_toArray, List.set_cons_zero, List.set_cons_succ]
        refine wpAnyH_ready (rs := [9]) (by kernel_rfl) (by simp) ?_
        refine AllReadyH.cons rfl (fun K hK => ?_) AllReadyH.nil
        go_simp
        have hBf := ((below_and hBx (Nat.le_refl _) b4).setCell (p := ⟨w.heap.size + 1 + 1, 0, none⟩) (by simp; omega) (.bool d4)).setCell (p := ⟨w.heap.size + 1 + 1, 1, none⟩) (by simp; omega) (.slice o4 n4 c4)
        have kCf := kC4.put (u' := .bool d4) (v' := .slice o4 n4 c4)
        have kAf := kA4.far (k := w.heap.size + 1 + 1) (x := .bool d4) (y := .slice o4 n4 c4) (by omega)
        have kBf := kB4.far (k := w.heap.size + 1 + 1) (x := .bool d4) (y := .slice o4 n4 c4) (by omega)
        have hCf := hC4.box kC4 (x := .bool d4) (y := .slice o4 n4 c4)
        clear g1 g2 g3 g4 kA4 kB4 kC4
        generalize ((w4.setCell ⟨w.heap.size + 1 + 1, 0, none⟩ (.bool d4)).setCell ⟨w.heap.size + 1 + 1, 1, none⟩ (.slice o4 n4 c4)) = wF at *
        have hSF := And.intro kAf.1 (And.intro kAf.2.1 (And.intro kBf.1 kBf.2.1))
        obtain ⟨g1, g2, g3, g4⟩ := id kCf
        try go_simp
        refine hK.out _ _ ?_ (fun hHeld => ?_)
        · first | exact hSF | exact hS.out _ (by assumption) | assumption | go_keep
        clear hK K
        try simp (maxSteps := 10000000) only [List.getElem_toArray, List.getElem_cons_succ, List.getElem_cons_zero, Act.put, List.setIfInBounds_toArray, List.set_cons_zero, List.set_cons_succ]
        refine wpAnyH_done (by kernel_rfl) ?_ _
        go_wp2
        refine bodyPost_ret (v := .agg #[.bool d4, .slice o4 n4 c4]) (by simp [results, Try.results23, go_sem, g1, g2]) rfl ⟨_, rfl, hCf, hBf⟩
end Go.Proofs.Ytccogdlmlegmbaa
