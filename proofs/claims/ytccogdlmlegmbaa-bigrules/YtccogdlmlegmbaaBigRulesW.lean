/- BigRules, walked. -/
import Derived.Test.YtccogdlmlegmbaaBigOrd
import Derived.Test.YtccogdlmlegmbaaBigSmall
namespace Go.Proofs.Ytccogdlmlegmbaa.bigRules
open Go.ChangeShapes Go.WideShapes Go.ChangeAt Go.ChangeMaps Go.RowKit
set_option linter.unusedSimpArgs false
set_option linter.unusedVariables false
theorem shut {p : Prop} (h : p) : Shut p := h
set_option maxRecDepth 4000 in
set_option maxHeartbeats 4000000 in
theorem walk {H : Type} (enc : TypeId × Value → H) (base : Nat) (w : World) (v0 v1 v2 : Value) (d0 d1 d2 : DataW H) (p0 p1 p2 : List MemPlace)
    (o0 : Value.okWide Try.prog w .any base 34 v0) (h0 : DataW.Trod enc Try.prog w 0 (fun _ => true) true 34 v0 d0 p0)
    (o1 : Value.okWide Try.prog w .any base 34 v1) (h1 : DataW.Trod enc Try.prog w 0 (fun _ => true) true 34 v1 d1 p1)
    (o2 : Value.okWide Try.prog w .any base 34 v2) (h2 : DataW.Trod enc Try.prog w 0 (fun _ => true) true 34 v2 d2 p2) :
    Calls Try.prog 6 #[v0, v1, v2] w fun e w' => e = .returned (.bool true) ∧ Below w.heap.size w w' := by
  obtain ⟨na, oa, la, ca, rfl, hLa, hca, hma, hla⟩ := open_num o0 h0
  obtain ⟨nb, ob, lb, cb, rfl, hLb, hcb, hmb, hlb⟩ := open_num o1 h1
  obtain ⟨nc, oc, lc, cc, rfl, hLc, hcc, hmc, hlc⟩ := open_num o2 h2
  unfold maxLen at hla hlb hlc
  clear o0 h0 o1 h1 o2 h2
  obtain ⟨kA, kB, kC, hB0, hz0⟩ := boxes3 w (.bool na) (.slice oa la.length ca) (.bool nb) (.slice ob lb.length cb) (.bool nc) (.slice oc lc.length cc) 34 34 34
  go_enter Try.func6, Try.ntmps6
  go_wp2_with fail
  generalize (((w.alloc (.cells #[.bool na, .slice oa la.length ca] 34)).alloc (.cells #[.bool nb, .slice ob lb.length cb] 34)).alloc (.cells #[.bool nc, .slice oc lc.length cc] 34)) = W0 at *
  refine (awake_w _).mono ?_
  rintro e w1 ⟨rfl, b1⟩
  have kA1 := kA.below b1 (by omega)
  have kB1 := kB.below b1 (by omega)
  have kC1 := kC.below b1 (by omega)
  have hB1 := below_and hB0 (Nat.le_refl _) b1
  have hs1 := b1.size
  obtain ⟨f1, f2, f3, f4⟩ := id kA1
  obtain ⟨f5, f6, f7, f8⟩ := id kB1
  obtain ⟨f9, f10, f11, f12⟩ := id kC1
  by_cases ha40 : 40 < la.length
  · have hz1 : (40 : Int) < (la.length : Int) := by omega
    go_wp2
    go_ret
    exact ⟨rfl, hB1⟩
  have hz1 : ¬ (40 : Int) < (la.length : Int) := by omega
  by_cases hb40 : 40 < lb.length
  · have hz2 : (40 : Int) < (lb.length : Int) := by omega
    go_wp2
    go_ret
    exact ⟨rfl, hB1⟩
  have hz2 : ¬ (40 : Int) < (lb.length : Int) := by omega
  by_cases hc40 : 40 < lc.length
  · have hz3 : (40 : Int) < (lc.length : Int) := by omega
    go_wp2
    go_ret
    exact ⟨rfl, hB1⟩
  have hz3 : ¬ (40 : Int) < (lc.length : Int) := by omega
  have iX0 := (IsN.of_open (neg := na) (K := 40) hLa hca hma (by omega)).below hB1
  have iY0 := (IsN.of_open (neg := nb) (K := 40) hLb hcb hmb (by omega)).below hB1
  have iZ0 := (IsN.of_open (neg := nc) (K := 40) hLc hcc hmc (by omega)).below hB1
  have hXm : (sv na (gval 4294967296 la)).natAbs < 4294967296 ^ 40 := natAbs_lt_of hma (by omega)
  have hYm : (sv nb (gval 4294967296 lb)).natAbs < 4294967296 ^ 40 := natAbs_lt_of hmb (by omega)
  have hZm : (sv nc (gval 4294967296 lc)).natAbs < 4294967296 ^ 40 := natAbs_lt_of hmc (by omega)
  obtain ⟨X, hX⟩ : ∃ X, sv na (gval 4294967296 la) = X := ⟨_, rfl⟩
  obtain ⟨Y, hY⟩ : ∃ Y, sv nb (gval 4294967296 lb) = Y := ⟨_, rfl⟩
  obtain ⟨Z, hZ⟩ : ∃ Z, sv nc (gval 4294967296 lc) = Z := ⟨_, rfl⟩
  rw [hX] at iX0 hXm
  rw [hY] at iY0 hYm
  rw [hZ] at iZ0 hZm
  clear hX hY hZ
  have g0 : w.heap.size + 1 + 1 < w1.heap.size := by omega
  clear b1 hs1 hz0 hB0 kA kB kC
  go_wp2
  obtain ⟨ga, hga⟩ : ∃ ga, w.heap.size = ga := ⟨_, rfl⟩
  rw [hga] at kA1 kB1 kC1 f1 f2 f3 f4 f5 f6 f7 f8 f9 f10 f11 f12 g0 ⊢
  go_cut [7, 8, 9] from 41 to 46 (fun p7 p8 p9 wx => ∃ g7 g8 g9, p7 = .pointer (some ⟨g7, 0, none⟩) ∧ p8 = .pointer (some ⟨g8, 0, none⟩) ∧ p9 = .pointer (some ⟨g9, 0, none⟩) ∧ Box g7 (.bool na) (.slice oa la.length ca) wx ∧ Box g8 (.bool nb) (.slice ob lb.length cb) wx ∧ Box g9 (.bool nc) (.slice oc lc.length cc) wx ∧ Below w1.heap.size w1 wx)
  case first =>
    have hS : Hid (∀ w', Below w1.heap.size w1 w' → w'.cell? ⟨ga, 0, none⟩ = some (.bool na) ∧ w'.cell? ⟨ga, 1, none⟩ = some (.slice oa la.length ca) ∧ w'.cell? ⟨ga + 1, 0, none⟩ = some (.bool nb) ∧ w'.cell? ⟨ga + 1, 1, none⟩ = some (.slice ob lb.length cb) ∧ w'.cell? ⟨ga + 1 + 1, 0, none⟩ = some (.bool nc) ∧ w'.cell? ⟨ga + 1 + 1, 1, none⟩ = some (.slice oc lc.length cc)) := fun w' hb =>
      ⟨(hb.cell (show ga < _ by omega)).trans f1, (hb.cell (show ga < _ by omega)).trans f2, (hb.cell (show ga + 1 < _ by omega)).trans f5, (hb.cell (show ga + 1 < _ by omega)).trans f6, (hb.cell (show ga + 1 + 1 < _ by omega)).trans f9, (hb.cell (show ga + 1 + 1 < _ by omega)).trans f10⟩
    refine wp_region_held_drew (S := fun w' => w'.cell? ⟨ga, 0, none⟩ = some (.bool na) ∧ w'.cell? ⟨ga, 1, none⟩ = some (.slice oa la.length ca) ∧ w'.cell? ⟨ga + 1, 0, none⟩ = some (.bool nb) ∧ w'.cell? ⟨ga + 1, 1, none⟩ = some (.slice ob lb.length cb) ∧ w'.cell? ⟨ga + 1 + 1, 0, none⟩ = some (.bool nc) ∧ w'.cell? ⟨ga + 1 + 1, 1, none⟩ = some (.slice oc lc.length cc)) (by kernel_rfl) (by go_keep) (fun hHeld => ?_)
    refine wpAnyH_take (i := 0) (oi := _) (v := ?_) rfl (by kernel_rfl) (by kernel_rfl) (by kernel_rfl) (fun _ _ _ h => h) (Or.inl ⟨by rfl, ?_⟩) (by assumption) ?_
    rotate_left 1
    · (intro w hSw; (try dsimp only at hSw); go_simp; try with_reducible rfl)
    try simp only [List.getElem_toArray, List.getElem_cons_succ, List.getElem_cons_zero, Act.put, List.setIfInBounds_toArray, List.set_cons_zero, List.set_cons_succ]
    refine wpAnyH_take (i := 2) (oi := _) (v := ?_) rfl (by kernel_rfl) (by kernel_rfl) (by kernel_rfl) (fun _ _ _ h => h) (Or.inl ⟨by rfl, ?_⟩) (by assumption) ?_
    rotate_left 1
    · (intro w hSw; (try dsimp only at hSw); go_simp; try with_reducible rfl)
    try simp only [List.getElem_toArray, List.getElem_cons_succ, List.getElem_cons_zero, Act.put, List.setIfInBounds_toArray, List.set_cons_zero, List.set_cons_succ]
    refine wpAnyH_take (i := 4) (oi := _) (v := ?_) rfl (by kernel_rfl) (by kernel_rfl) (by kernel_rfl) (fun _ _ _ h => h) (Or.inl ⟨by rfl, ?_⟩) (by assumption) ?_
    rotate_left 1
    · (intro w hSw; (try dsimp only at hSw); go_simp; try with_reducible rfl)
    try simp only [List.getElem_toArray, List.getElem_cons_succ, List.getElem_cons_zero, Act.put, List.setIfInBounds_toArray, List.set_cons_zero, List.set_cons_succ]
    refine wpAnyH_at (m' := 9) (listed' := #[true, false, true, false, true, false, false, false, false, false, false, false]) (by kernel_rfl) (by kernel_rfl) ?_
    refine wpAnyH_name fun a0 ha0 => ?_
    refine wpAnyH_inv3 (A := fun s => (((((a0.put (some 42) s.x1).put (some 44) s.x3).put (some 46) s.x5).put (some 7) s.x6).put (some 8) s.x7).put (some 9) s.x8) (R := R3 w1.heap.size w1 (.agg #[.bool na, .slice oa la.length ca]) (.agg #[.bool nb, .slice ob lb.length cb]) (.agg #[.bool nc, .slice oc lc.length cc]) (.bool false) (.slice none 0 0)) ?_ (fun s w h => ⟨h.o3, h.o5⟩) ?_ ?_ ?_ ?_ ?_ ?_ ?_ _ _ undef undef undef undef undef undef ?_ ?_
    · kernel_rfl
    · intro s w' hR
      refine wpOp_step rfl (fun K' hK => ?_)
      have hK' := shut hK
      clear hK
      subst ha0
      simp only [Act.put, List.setIfInBounds_toArray, List.set_cons_zero, List.set_cons_succ]
      go_simp
      refine (num_w _ _ _ _ _).mono ?_
      rintro e w2 ⟨rfl, b2⟩
      try go_simp
      refine hK'.out _ _ ⟨_, ?_, hR.c1 b2, hS.out _ (hR.c1 b2).bel⟩
      rfl
    · intro s w' hR he
      refine wpOp_step rfl (fun K' hK => ?_)
      have hK' := shut hK
      clear hK
      subst ha0
      simp only [Act.put, List.setIfInBounds_toArray, List.set_cons_zero, List.set_cons_succ]
      go_simp
      refine (num_w _ _ _ _ _).mono ?_
      rintro e w2 ⟨rfl, b2⟩
      try go_simp
      refine hK'.out _ _ ⟨_, ?_, hR.c3 he b2, hS.out _ (hR.c3 he b2).bel⟩
      rfl
    · intro s w' hR he
      refine wpOp_step rfl (fun K' hK => ?_)
      have hK' := shut hK
      clear hK
      subst ha0
      simp only [Act.put, List.setIfInBounds_toArray, List.set_cons_zero, List.set_cons_succ]
      go_simp
      refine (num_w _ _ _ _ _).mono ?_
      rintro e w2 ⟨rfl, b2⟩
      try go_simp
      refine hK'.out _ _ ⟨_, ?_, hR.c5 he b2, hS.out _ (hR.c5 he b2).bel⟩
      rfl
    · intro s w' hR
      refine wpOp_step rfl (fun K' hK => ?_)
      have hK' := shut hK
      clear hK
      subst ha0
      simp only [Act.put, List.setIfInBounds_toArray, List.set_cons_zero, List.set_cons_succ]
      go_simp
      refine hK'.out _ _ ⟨_, ?_, hR.n6 25, hS.out _ (hR.n6 25).bel⟩
      rfl
    · intro s w' hR
      refine wpOp_step rfl (fun K' hK => ?_)
      have hK' := shut hK
      clear hK
      subst ha0
      simp only [Act.put, List.setIfInBounds_toArray, List.set_cons_zero, List.set_cons_succ]
      go_simp
      refine hK'.out _ _ ⟨_, ?_, hR.n7 25, hS.out _ (hR.n7 25).bel⟩
      rfl
    · intro s w' hR
      refine wpOp_step rfl (fun K' hK => ?_)
      have hK' := shut hK
      clear hK
      subst ha0
      simp only [Act.put, List.setIfInBounds_toArray, List.set_cons_zero, List.set_cons_succ]
      go_simp
      refine hK'.out _ _ ⟨_, ?_, hR.n8 25, hS.out _ (hR.n8 25).bel⟩
      rfl
    · intro x1 x3 x5 x6 x7 x8 w' hR
      obtain rfl := hR.h1 rfl
      obtain rfl := hR.h3 rfl
      obtain rfl := hR.h5 rfl
      obtain ⟨g7, rfl, n7, z7, k7⟩ := hR.h6 rfl
      obtain ⟨g8, rfl, n8, z8, k8⟩ := hR.h7 rfl
      obtain ⟨g9, rfl, n9, z9, k9⟩ := hR.h8 rfl
      have e78 : g7 ≠ g8 := fun e => hR.h67 rfl rfl (by rw [e])
      have e79 : g7 ≠ g9 := fun e => hR.h68 rfl rfl (by rw [e])
      have e89 : g8 ≠ g9 := fun e => hR.h78 rfl rfl (by rw [e])
      have hb0 := hR.bel
      clear hR
      obtain ⟨u1, u2, u3, u4⟩ := id k7
      subst ha0
      try simp only [Act.put, List.setIfInBounds_toArray, List.set_cons_zero, List.set_cons_succ]
      refine wpAnyH_ready (rs := [9]) (by kernel_rfl) (by simp) ?_
      refine AllReadyH.cons rfl (fun K hK => ?_) AllReadyH.nil
      go_simp
      have hb7 := (hb0.setCell (p := ⟨g7, 0, none⟩) n7 (.bool na)).setCell (p := ⟨g7, 1, none⟩) n7 (.slice oa la.length ca)
      have k7a := k7.put (u' := .bool na) (v' := .slice oa la.length ca)
      have k8a := k8.far (k := g7) (x := .bool na) (y := .slice oa la.length ca) e78.symm
      have k9a := k9.far (k := g7) (x := .bool na) (y := .slice oa la.length ca) e79.symm
      clear u1 u2 u3 u4 k7 k8 k9 hb0
      obtain ⟨u1, u2, u3, u4⟩ := id k8a
      generalize ((w'.setCell ⟨g7, 0, none⟩ (.bool na)).setCell ⟨g7, 1, none⟩ (.slice oa la.length ca)) = wA at *
      try go_simp
      refine hK.out _ _ ?_ (fun hHeld => ?_)
      · first | assumption | exact hS.out _ (by assumption) | (refine ⟨?_, ?_, ?_, ?_⟩ <;> assumption) | (refine ⟨?_, ?_, ?_, ?_, ?_, ?_⟩ <;> assumption) | go_keep
      clear hK K
      try simp only [List.getElem_toArray, List.getElem_cons_succ, List.getElem_cons_zero, Act.put, List.setIfInBounds_toArray, List.set_cons_zero, List.set_cons_succ]
      refine wpAnyH_ready (rs := [10]) (by kernel_rfl) (by simp) ?_
      refine AllReadyH.cons rfl (fun K hK => ?_) AllReadyH.nil
      go_simp
      have hb8 := (hb7.setCell (p := ⟨g8, 0, none⟩) n8 (.bool nb)).setCell (p := ⟨g8, 1, none⟩) n8 (.slice ob lb.length cb)
      have k7b := k7a.far (k := g8) (x := .bool nb) (y := .slice ob lb.length cb) e78
      have k8b := k8a.put (u' := .bool nb) (v' := .slice ob lb.length cb)
      have k9b := k9a.far (k := g8) (x := .bool nb) (y := .slice ob lb.length cb) e89.symm
      clear u1 u2 u3 u4 k7a k8a k9a hb7
      obtain ⟨u1, u2, u3, u4⟩ := id k9b
      generalize ((wA.setCell ⟨g8, 0, none⟩ (.bool nb)).setCell ⟨g8, 1, none⟩ (.slice ob lb.length cb)) = wB at *
      try go_simp
      refine hK.out _ _ ?_ (fun hHeld => ?_)
      · first | assumption | exact hS.out _ (by assumption) | (refine ⟨?_, ?_, ?_, ?_⟩ <;> assumption) | (refine ⟨?_, ?_, ?_, ?_, ?_, ?_⟩ <;> assumption) | go_keep
      clear hK K
      try simp only [List.getElem_toArray, List.getElem_cons_succ, List.getElem_cons_zero, Act.put, List.setIfInBounds_toArray, List.set_cons_zero, List.set_cons_succ]
      refine wpAnyH_ready (rs := [11]) (by kernel_rfl) (by simp) ?_
      refine AllReadyH.cons rfl (fun K hK => ?_) AllReadyH.nil
      go_simp
      have hb9 := (hb8.setCell (p := ⟨g9, 0, none⟩) n9 (.bool nc)).setCell (p := ⟨g9, 1, none⟩) n9 (.slice oc lc.length cc)
      have k7c := k7b.far (k := g9) (x := .bool nc) (y := .slice oc lc.length cc) e79
      have k8c := k8b.far (k := g9) (x := .bool nc) (y := .slice oc lc.length cc) e89
      have k9c := k9b.put (u' := .bool nc) (v' := .slice oc lc.length cc)
      clear u1 u2 u3 u4 k7b k8b k9b hb8
      generalize ((wB.setCell ⟨g9, 0, none⟩ (.bool nc)).setCell ⟨g9, 1, none⟩ (.slice oc lc.length cc)) = wC at *
      try go_simp
      refine hK.out _ _ ?_ (fun hHeld => ?_)
      · first | assumption | exact hS.out _ (by assumption) | (refine ⟨?_, ?_, ?_, ?_⟩ <;> assumption) | (refine ⟨?_, ?_, ?_, ?_, ?_, ?_⟩ <;> assumption) | go_keep
      clear hK K
      try simp only [List.getElem_toArray, List.getElem_cons_succ, List.getElem_cons_zero, Act.put, List.setIfInBounds_toArray, List.set_cons_zero, List.set_cons_succ]
      refine wpAnyH_done (by kernel_rfl) ?_ _
      go_wp2_with fail
      go_meet
      exact ⟨g7, g8, g9, rfl, rfl, rfl, k7c, k8c, k9c, hb9⟩
    · subst ha0; rfl
    · exact ⟨(Below.refl _ _).drew, Nat.le_refl _, nofun, nofun, nofun, nofun, nofun, nofun, nofun, nofun, nofun, nofun, nofun⟩
  case rest =>
    obtain ⟨g7, g8, g9, rfl, rfl, rfl, kX, kY, kZ, bw⟩ := hcut
    have hBc := below_and hB1 (by omega) bw
    have iX := iX0.below bw
    have iY := iY0.below bw
    have iZ := iZ0.below bw
    clear iX0 iY0 iZ0 f1 f2 f3 f4 f5 f6 f7 f8 f9 f10 f11 f12 hB1 kA1 kC1
    have mXY : mulOk X Y = true := mulOk_of (a := 40) (b := 40) hXm hYm (by omega)
    have mXZ : mulOk X Z = true := mulOk_of (a := 40) (b := 40) hXm hZm (by omega)
    have mXS : mulOk X (Y + Z) = true := mulOk_of (a := 40) (b := 41) hXm (natAbs_add_lt hYm hZm) (by omega)
    have lX := kX.lt
    have lY := kY.lt
    have lZ := kZ.lt
    have kB2 := kB1.below bw (by omega)
    have lB : ga + 1 < wc.heap.size := kB2.lt
    have hgw : w.heap.size ≤ wc.heap.size := by omega
    clear kB1 bw hga g0 ha40 hb40 hc40 hz1 hz2 hz3 hLa hLb hLc hma hmb hmc hla hlb hlc hca hcb hcc
    obtain ⟨x1, x2, x3, x4⟩ := id kX
    obtain ⟨y1, y2, y3, y4⟩ := id kY
    obtain ⟨z1, z2, z3, z4⟩ := id kZ
    go_wp2_with fail
    refine (mul_w _ _ X Y 40 _ (by omega) iX iY).mono ?_
    rintro e w5 ⟨v5, rfl, h5, b5⟩
    rw [mXY] at h5 ⊢
    rw [if_pos rfl] at h5
    obtain ⟨d5, o5, n5, c5, rfl⟩ := h5.shape
    obtain ⟨kP6, hB6, hz6⟩ := newbox w5 (.bool d5) (.slice o5 n5 c5) 25
    have s5 := b5.size
    have kX5 := kX.below b5 lX
    have kY5 := kY.below b5 lY
    have kZ5 := kZ.below b5 lZ
    have bW6 := below_and b5 (Nat.le_refl _) hB6
    have kX6 := kX.below bW6 lX
    have kY6 := kY.below bW6 lY
    have kZ6 := kZ.below bW6 lZ
    clear x1 x2 x3 x4 y1 y2 y3 y4 z1 z2 z3 z4
    obtain ⟨x1, x2, x3, x4⟩ := id kX6
    obtain ⟨z1, z2, z3, z4⟩ := id kZ6
    obtain ⟨x5, x6, x7, x8⟩ := id kX5
    obtain ⟨z5, z6, z7, z8⟩ := id kZ5
    have h6 := h5.below hB6
    go_wp2_with fail
    generalize (w5.alloc (.cells #[.bool d5, .slice o5 n5 c5] 25)) = W6 at *
    refine (mul_w _ _ X Z 40 _ (by omega) (iX.below bW6) (iZ.below bW6)).mono ?_
    rintro e w7 ⟨v7, rfl, h7, b7⟩
    rw [mXZ] at h7 ⊢
    rw [if_pos rfl] at h7
    obtain ⟨d7, o7, n7, c7, rfl⟩ := h7.shape
    obtain ⟨kQ8, hB8, hz8⟩ := newbox w7 (.bool d7) (.slice o7 n7 c7) 25
    have s7 := b7.size
    have bW68 := below_and b7 (Nat.le_refl _) hB8
    have bW8 := below_and bW6 (Nat.le_refl _) bW68
    have kX8 := kX.below bW8 lX
    have kY8 := kY.below bW8 lY
    have kZ8 := kZ.below bW8 lZ
    have kP8 := kP6.below bW68 (by omega)
    have h8 := h7.below hB8
    have h68 := h6.below bW68
    have s8 := bW8.size
    have e1 : w5.heap.size ≠ w7.heap.size := by omega
    generalize w5.heap.size = gp at *
    have lP := kP8.lt
    have lQ := kQ8.lt
    clear x1 x2 x3 x4 z1 z2 z3 z4 x5 x6 x7 x8 z5 z6 z7 z8 kX5 kY5 kZ5 kX6 kY6 kZ6
    go_wp2
    generalize (w7.alloc (.cells #[.bool d7, .slice o7 n7 c7] 25)) = W8 at *
    generalize w7.heap.size = gq at *
    have jX := iX.below bW8
    have jY := iY.below bW8
    have jZ := iZ.below bW8
    have kB8 := kB2.below bW8 lB
    have hB8w := below_and' hBc hgw bW8
    have lX8 := kX8.lt
    have lY8 := kY8.lt
    have lZ8 := kZ8.lt
    have lB8 := kB8.lt
    have hgw8 : w.heap.size ≤ W8.heap.size := by omega
    clear iX iY iZ kX kY kZ kB2 hB6 hB8 bW6 bW68 bW8 hBc b5 b7 h5 h6 h7 kP6 s5 s7 s8 hz6 hz8 lX lY lZ lB hgw
    obtain ⟨x1, x2, x3, x4⟩ := id kX8
    obtain ⟨y1, y2, y3, y4⟩ := id kY8
    obtain ⟨z1, z2, z3, z4⟩ := id kZ8
    have hD : Below W8.heap.size W8 W8.drew := (Below.refl _ _).drew
    have hDA : Below W8.heap.size W8 (W8.drew.alloc (.cells #[.bool false, .slice none 0 0] 25)) := hD.alloc (Nat.le_refl _) _
    have hNew : Box W8.heap.size (.bool false) (.slice none 0 0) (W8.drew.alloc (.cells #[.bool false, .slice none 0 0] 25)) := Box.new W8.drew _ _ _
    have hDz : W8.heap.size < (W8.drew.alloc (.cells #[.bool false, .slice none 0 0] 25)).heap.size := by rw [World.size_alloc]; exact Nat.lt_succ_self _
    go_cut [14, 15] from 59 to 66 (fun p14 v15 wx => ∃ g d o n c, p14 = .pointer (some ⟨g, 0, none⟩) ∧ v15 = .bool true ∧ Box g (.bool d) (.slice o n c) wx ∧ IsC (.agg #[.bool d, .slice o n c]) (X * (Y + Z)) 128 wx ∧ Below W8.heap.size W8 wx)
    case first =>
      go_region_held3 (fun w' => w'.cell? ⟨g7, 0, none⟩ = some (.bool na) ∧ w'.cell? ⟨g7, 1, none⟩ = some (.slice oa la.length ca) ∧ w'.cell? ⟨g8, 0, none⟩ = some (.bool nb) ∧ w'.cell? ⟨g8, 1, none⟩ = some (.slice ob lb.length cb) ∧ w'.cell? ⟨g9, 0, none⟩ = some (.bool nc) ∧ w'.cell? ⟨g9, 1, none⟩ = some (.slice oc lc.length cc)) (first | (refine ⟨?_, ?_, ?_, ?_, ?_, ?_⟩ <;> (rw [World.cell?_setCell_other _ _ _ _ (by simp; try omega), World.cell?_setCell_other _ _ _ _ (by simp; try omega)]; assumption)) | go_keep) (first
          | (go_at_call 22
             refine (add_w _ _ Y Z 40 _ (by omega) (jY.below (by first | exact hD | exact hDA)) (jZ.below (by first | exact hD | exact hDA))).mono ?_
             rintro e w3 ⟨v3, rfl, h3, b3'⟩
             have b3 : Below W8.heap.size W8 w3 := by first | exact below_and hD (Nat.le_refl _) b3' | exact below_and hDA (Nat.le_refl _) b3'
             have hz3 := b3.size
             have hN3 := h3.isN
             have hX3 := (jX.below b3).mono (show 40 ≤ 41 by omega)
             have kX3 := kX8.below b3 lX8
             have kY3 := kY8.below b3 lY8
             have kZ3 := kZ8.below b3 lZ8
             obtain ⟨a1, a2, a3, a4⟩ := id kX3
             obtain ⟨a5, a6, a7, a8⟩ := id kY3
             obtain ⟨a9, a10, a11, a12⟩ := id kZ3
             obtain ⟨d3, o3, n3, c3, rfl⟩ := h3.shape
             first
               | (have kM3 : Box W8.heap.size (.bool false) (.slice none 0 0) w3 := Box.below hNew b3' hDz
                  have hz3' : W8.heap.size < w3.heap.size := Nat.lt_of_lt_of_le hDz b3'.size
                  obtain ⟨m1, m2, m3, m4⟩ := id kM3)
               | skip)
          | (go_at_call 16
             refine (mul_w _ _ X (Y + Z) 41 _ (by omega) (by first | exact hX3 | exact hX3.below ((Below.refl _ _).alloc (Nat.le_refl _) _)) (by first | exact hN3 | exact hN3.below ((Below.refl _ _).alloc (Nat.le_refl _) _))).mono ?_
             rintro e w4 ⟨v4, rfl, h4, b4'⟩
             rw [mXS] at h4 ⊢
             rw [if_pos rfl] at h4
             have b4 : Below w3.heap.size w3 w4 := by first | exact b4' | exact below_and ((Below.refl _ _).alloc (Nat.le_refl _) _) (Nat.le_refl _) b4'
             have hB4 := below_and b3 (Nat.le_refl _) b4
             have hz4 := b4.size
             obtain ⟨d4, o4, n4, c4, rfl⟩ := h4.shape
             obtain ⟨a21, a22, a23, a24⟩ := kX8.below hB4 lX8
             obtain ⟨a25, a26, a27, a28⟩ := kY8.below hB4 lY8
             obtain ⟨a29, a30, a31, a32⟩ := kZ8.below hB4 lZ8
             first
               | (have kM4 : Box W8.heap.size (.bool false) (.slice none 0 0) w4 := kM3.below b4 (by omega)
                  obtain ⟨m11, m12, m13, m14⟩ := id kM4)
               | (have kM4 : Box w3.heap.size (.bool false) (.slice none 0 0) w4 := Box.below (Box.new w3 _ _ 25) b4' (by simp)
                  obtain ⟨m11, m12, m13, m14⟩ := id kM4)
               | skip))
      all_goals (go_wp2_with fail; go_meet)
      all_goals first
        | exact ⟨_, d4, o4, n4, c4, rfl, rfl, Box.new _ _ _ _, h4.below ((Below.refl _ _).alloc (Nat.le_refl _) _), hB4.alloc hB4.size _⟩
        | exact ⟨_, d4, o4, n4, c4, rfl, rfl, kM4.put, h4.box kM4, (hB4.setCell (p := ⟨_, 0, none⟩) (by simp; try omega) _).setCell (p := ⟨_, 1, none⟩) (by simp; try omega) _⟩
    case rest =>
      obtain ⟨gs, d9, o9, n9, c9, rfl, rfl, kS, hS9, b9⟩ := hcut
      have B9 := below_and' hB8w hgw8 b9
      have hgw9 : w.heap.size ≤ wc.heap.size := Nat.le_trans hgw8 b9.size
      have mX := kX8.below b9 lX8
      have mY := kY8.below b9 lY8
      have mP := kP8.below b9 lP
      have mQ := kQ8.below b9 lQ
      have mB := kB8.below b9 lB8
      have qX := jX.below b9
      have qY := jY.below b9
      have hP := h68.below b9
      have hQ := h8.below b9
      have lX := mX.lt
      have lY := mY.lt
      have lP' := mP.lt
      have lQ' := mQ.lt
      have lB := mB.lt
      have lS := kS.lt
      clear kX8 kY8 kZ8 kP8 kQ8 kB8 jX jY jZ h68 h8 b9 hB8w hgw8 x1 x2 x3 x4 y1 y2 y3 y4 z1 z2 z3 z4 hD hDA hNew hDz lX8 lY8 lZ8 lB8 lP lQ mXY mXZ mXS e1
      have hE1 : cmpZ (X * (Y + Z)) (X * Y + X * Z) = 0 := by rw [Int.mul_add, cmpZ_eq]
      have hE2 : cmpZ (X + Y - Y) X = 0 := by rw [show X + Y - Y = X by omega, cmpZ_eq]
      go_wp2_with fail
      go_cut [104] from 67 to 104 (fun bv wx => bv = .bool false ∧ Below wc.heap.size wc wx)
      case first =>
        have hDr : Below wc.heap.size wc wc.drew := (Below.refl _ _).drew
        obtain ⟨C, hC⟩ : ∃ C, cmpZ X Y = C := ⟨_, rfl⟩
        obtain ⟨D, hD⟩ : ∃ D, cmpZ Y X = D := ⟨_, rfl⟩
        have wD : IntKind.i64.wrap (-D) = C := by
          have h1 := cmpZ_swap X Y
          have h2 := cmpZ_bd X Y
          rw [IntKind.wrap_i64]; omega
        have hC' := hid hC
        have hD' := hid hD
        clear hC hD
        have hE1' := hid hE1
        have hE2' := hid hE2
        clear hE1 hE2
        have hS : Hid (∀ w', Below wc.heap.size wc w' → w'.cell? ⟨gs, 0, none⟩ = some (.bool d9) ∧ w'.cell? ⟨gs, 1, none⟩ = some (.slice o9 n9 c9) ∧ w'.cell? ⟨gp, 0, none⟩ = some (.bool d5) ∧ w'.cell? ⟨gp, 1, none⟩ = some (.slice o5 n5 c5) ∧ w'.cell? ⟨gq, 0, none⟩ = some (.bool d7) ∧ w'.cell? ⟨gq, 1, none⟩ = some (.slice o7 n7 c7) ∧ w'.cell? ⟨g7, 0, none⟩ = some (.bool na) ∧ w'.cell? ⟨g7, 1, none⟩ = some (.slice oa la.length ca) ∧ w'.cell? ⟨g8, 0, none⟩ = some (.bool nb) ∧ w'.cell? ⟨g8, 1, none⟩ = some (.slice ob lb.length cb)) := fun w' hb =>
          ⟨(kS.below hb lS).1, (kS.below hb lS).2.1, (mP.below hb lP').1, (mP.below hb lP').2.1, (mQ.below hb lQ').1, (mQ.below hb lQ').2.1, (mX.below hb lX).1, (mX.below hb lX).2.1, (mY.below hb lY).1, (mY.below hb lY).2.1⟩
        refine wp_region_held_drew (S := fun w' => w'.cell? ⟨gs, 0, none⟩ = some (.bool d9) ∧ w'.cell? ⟨gs, 1, none⟩ = some (.slice o9 n9 c9) ∧ w'.cell? ⟨gp, 0, none⟩ = some (.bool d5) ∧ w'.cell? ⟨gp, 1, none⟩ = some (.slice o5 n5 c5) ∧ w'.cell? ⟨gq, 0, none⟩ = some (.bool d7) ∧ w'.cell? ⟨gq, 1, none⟩ = some (.slice o7 n7 c7) ∧ w'.cell? ⟨g7, 0, none⟩ = some (.bool na) ∧ w'.cell? ⟨g7, 1, none⟩ = some (.slice oa la.length ca) ∧ w'.cell? ⟨g8, 0, none⟩ = some (.bool nb) ∧ w'.cell? ⟨g8, 1, none⟩ = some (.slice ob lb.length cb)) (by kernel_rfl) (hS.out _ hDr) (fun hHeld => ?_)
        refine wpAnyH_take (i := 0) (oi := _) (v := ?_) rfl (by kernel_rfl) (by kernel_rfl) (by kernel_rfl) (fun _ _ _ h => h) (Or.inl ⟨by rfl, ?_⟩) (by assumption) ?_
        rotate_left 1
        · (intro w hSw; (try dsimp only at hSw); go_simp; try with_reducible rfl)
        try simp only [List.getElem_toArray, List.getElem_cons_succ, List.getElem_cons_zero, Act.put, List.setIfInBounds_toArray, List.set_cons_zero, List.set_cons_succ]
        refine wpAnyH_take (i := 1) (oi := _) (v := ?_) rfl (by kernel_rfl) (by kernel_rfl) (by kernel_rfl) (fun _ _ _ h => h) (Or.inl ⟨by rfl, ?_⟩) (by assumption) ?_
        rotate_left 1
        · (intro w hSw; (try dsimp only at hSw); go_simp; try with_reducible rfl)
        try simp only [List.getElem_toArray, List.getElem_cons_succ, List.getElem_cons_zero, Act.put, List.setIfInBounds_toArray, List.set_cons_zero, List.set_cons_succ]
        refine wpAnyH_take (i := 2) (oi := _) (v := ?_) rfl (by kernel_rfl) (by kernel_rfl) (by kernel_rfl) (fun _ _ _ h => h) (Or.inl ⟨by rfl, ?_⟩) (by assumption) ?_
        rotate_left 1
        · (intro w hSw; (try dsimp only at hSw); go_simp; try with_reducible rfl)
        try simp only [List.getElem_toArray, List.getElem_cons_succ, List.getElem_cons_zero, Act.put, List.setIfInBounds_toArray, List.set_cons_zero, List.set_cons_succ]
        refine wpAnyH_take (i := 3) (oi := _) (v := ?_) rfl (by kernel_rfl) (by kernel_rfl) (by kernel_rfl) (fun _ _ _ h => h) (Or.inl ⟨by rfl, ?_⟩) (by assumption) ?_
        rotate_left 1
        · (intro w hSw; (try dsimp only at hSw); go_simp; try with_reducible rfl)
        try simp only [List.getElem_toArray, List.getElem_cons_succ, List.getElem_cons_zero, Act.put, List.setIfInBounds_toArray, List.set_cons_zero, List.set_cons_succ]
        refine wpAnyH_take (i := 4) (oi := _) (v := ?_) rfl (by kernel_rfl) (by kernel_rfl) (by kernel_rfl) (fun _ _ _ h => h) (Or.inl ⟨by rfl, ?_⟩) (by assumption) ?_
        rotate_left 1
        · (intro w hSw; (try dsimp only at hSw); go_simp; try with_reducible rfl)
        try simp only [List.getElem_toArray, List.getElem_cons_succ, List.getElem_cons_zero, Act.put, List.setIfInBounds_toArray, List.set_cons_zero, List.set_cons_succ]
        refine wpAnyH_take (i := 5) (oi := _) (v := ?_) rfl (by kernel_rfl) (by kernel_rfl) (by kernel_rfl) (fun _ _ _ h => h) (Or.inl ⟨by rfl, ?_⟩) (by assumption) ?_
        rotate_left 1
        · (intro w hSw; (try dsimp only at hSw); go_simp; try with_reducible rfl)
        try simp only [List.getElem_toArray, List.getElem_cons_succ, List.getElem_cons_zero, Act.put, List.setIfInBounds_toArray, List.set_cons_zero, List.set_cons_succ]
        refine wpAnyH_take (i := 6) (oi := _) (v := ?_) rfl (by kernel_rfl) (by kernel_rfl) (by kernel_rfl) (fun _ _ _ h => h) (Or.inl ⟨by rfl, ?_⟩) (by assumption) ?_
        rotate_left 1
        · (intro w hSw; (try dsimp only at hSw); go_simp; try with_reducible rfl)
        try simp only [List.getElem_toArray, List.getElem_cons_succ, List.getElem_cons_zero, Act.put, List.setIfInBounds_toArray, List.set_cons_zero, List.set_cons_succ]
        refine wpAnyH_take (i := 7) (oi := _) (v := ?_) rfl (by kernel_rfl) (by kernel_rfl) (by kernel_rfl) (fun _ _ _ h => h) (Or.inl ⟨by rfl, ?_⟩) (by assumption) ?_
        rotate_left 1
        · (intro w hSw; (try dsimp only at hSw); go_simp; try with_reducible rfl)
        try simp only [List.getElem_toArray, List.getElem_cons_succ, List.getElem_cons_zero, Act.put, List.setIfInBounds_toArray, List.set_cons_zero, List.set_cons_succ]
        refine wpAnyH_take (i := 8) (oi := _) (v := ?_) rfl (by kernel_rfl) (by kernel_rfl) (by kernel_rfl) (fun _ _ _ h => h) (Or.inl ⟨by rfl, ?_⟩) (by assumption) ?_
        rotate_left 1
        · (intro w hSw; (try dsimp only at hSw); go_simp; try with_reducible rfl)
        try simp only [List.getElem_toArray, List.getElem_cons_succ, List.getElem_cons_zero, Act.put, List.setIfInBounds_toArray, List.set_cons_zero, List.set_cons_succ]
        refine wpAnyH_take (i := 9) (oi := _) (v := ?_) rfl (by kernel_rfl) (by kernel_rfl) (by kernel_rfl) (fun _ _ _ h => h) (Or.inl ⟨by rfl, ?_⟩) (by assumption) ?_
        rotate_left 1
        · (intro w hSw; (try dsimp only at hSw); go_simp; try with_reducible rfl)
        try simp only [List.getElem_toArray, List.getElem_cons_succ, List.getElem_cons_zero, Act.put, List.setIfInBounds_toArray, List.set_cons_zero, List.set_cons_succ]
        refine wpAnyH_take (i := 10) (oi := _) (v := ?_) rfl (by kernel_rfl) (by kernel_rfl) (by kernel_rfl) (fun _ _ _ h => h) (Or.inl ⟨by rfl, ?_⟩) (by assumption) ?_
        rotate_left 1
        · (intro w hSw; (try dsimp only at hSw); go_simp; try with_reducible rfl)
        try simp only [List.getElem_toArray, List.getElem_cons_succ, List.getElem_cons_zero, Act.put, List.setIfInBounds_toArray, List.set_cons_zero, List.set_cons_succ]
        refine wpAnyH_take (i := 11) (oi := _) (v := ?_) rfl (by kernel_rfl) (by kernel_rfl) (by kernel_rfl) (fun _ _ _ h => h) (Or.inl ⟨by rfl, ?_⟩) (by assumption) ?_
        rotate_left 1
        · (intro w hSw; (try dsimp only at hSw); go_simp; try with_reducible rfl)
        try simp only [List.getElem_toArray, List.getElem_cons_succ, List.getElem_cons_zero, Act.put, List.setIfInBounds_toArray, List.set_cons_zero, List.set_cons_succ]
        refine wpAnyH_take (i := 12) (oi := _) (v := ?_) rfl (by kernel_rfl) (by kernel_rfl) (by kernel_rfl) (fun _ _ _ h => h) (Or.inl ⟨by rfl, ?_⟩) (by assumption) ?_
        rotate_left 1
        · (intro w hSw; (try dsimp only at hSw); go_simp; try with_reducible rfl)
        try simp only [List.getElem_toArray, List.getElem_cons_succ, List.getElem_cons_zero, Act.put, List.setIfInBounds_toArray, List.set_cons_zero, List.set_cons_succ]
        refine wpAnyH_take (i := 13) (oi := _) (v := ?_) rfl (by kernel_rfl) (by kernel_rfl) (by kernel_rfl) (fun _ _ _ h => h) (Or.inl ⟨by rfl, ?_⟩) (by assumption) ?_
        rotate_left 1
        · (intro w hSw; (try dsimp only at hSw); go_simp; try with_reducible rfl)
        try simp only [List.getElem_toArray, List.getElem_cons_succ, List.getElem_cons_zero, Act.put, List.setIfInBounds_toArray, List.set_cons_zero, List.set_cons_succ]
        refine wpAnyH_ready (rs := [14]) (by kernel_rfl) (by simp) ?_
        refine AllReadyH.cons rfl (fun K hK => ?_) AllReadyH.nil
        go_simp
        refine (add_w _ _ (X * Y) (X * Z) 128 _ (by omega) (hP.below hDr).isN (hQ.below hDr).isN).mono ?_
        rintro e wa ⟨va, rfl, ha, ba'⟩
        have c1' : Below wc.heap.size wc wa := below_of_drew ba'
        try go_simp
        refine hK.out _ _ ?_ (fun hHeld => ?_)
        · first | assumption | exact hS.out _ (by assumption) | (refine ⟨?_, ?_, ?_, ?_⟩ <;> assumption) | (refine ⟨?_, ?_, ?_, ?_, ?_, ?_⟩ <;> assumption) | go_keep
        clear hK K
        try simp only [List.getElem_toArray, List.getElem_cons_succ, List.getElem_cons_zero, Act.put, List.setIfInBounds_toArray, List.set_cons_zero, List.set_cons_succ]
        refine wpAnyH_ready (rs := [15]) (by kernel_rfl) (by simp) ?_
        refine AllReadyH.cons rfl (fun K hK => ?_) AllReadyH.nil
        go_simp
        refine (Compare_w _ _ (X * (Y + Z)) (X * Y + X * Z) 129 _ (by omega) ((hS9.below c1').mono (by omega)).isN ha.isN).mono ?_
        rintro e wb ⟨rfl, bb'⟩
        rw [hE1'.out]
        have c2' : Below wc.heap.size wc wb := below_and c1' (Nat.le_refl _) bb'
        try go_simp
        refine hK.out _ _ ?_ (fun hHeld => ?_)
        · first | assumption | exact hS.out _ (by assumption) | (refine ⟨?_, ?_, ?_, ?_⟩ <;> assumption) | (refine ⟨?_, ?_, ?_, ?_, ?_, ?_⟩ <;> assumption) | go_keep
        clear hK K
        try simp only [List.getElem_toArray, List.getElem_cons_succ, List.getElem_cons_zero, Act.put, List.setIfInBounds_toArray, List.set_cons_zero, List.set_cons_succ]
        refine wpAnyH_take (i := 16) (oi := _) (v := ?_) rfl (by kernel_rfl) (by kernel_rfl) (by kernel_rfl) (fun _ _ _ h => h) (Or.inl ⟨by rfl, ?_⟩) (by assumption) ?_
        rotate_left 1
        · (intro w hSw; (try dsimp only at hSw); go_simp; try with_reducible rfl)
        try simp only [List.getElem_toArray, List.getElem_cons_succ, List.getElem_cons_zero, Act.put, List.setIfInBounds_toArray, List.set_cons_zero, List.set_cons_succ]
        refine wpAnyH_take (i := 17) (oi := _) (v := ?_) rfl (by kernel_rfl) (by kernel_rfl) (by kernel_rfl) (fun _ _ _ h => h) (Or.inl ⟨by rfl, ?_⟩) (by assumption) ?_
        rotate_left 1
        · (intro w hSw; (try dsimp only at hSw); go_simp; try with_reducible rfl)
        try simp only [List.getElem_toArray, List.getElem_cons_succ, List.getElem_cons_zero, Act.put, List.setIfInBounds_toArray, List.set_cons_zero, List.set_cons_succ]
        refine wpAnyH_take (i := 18) (oi := _) (v := ?_) rfl (by kernel_rfl) (by kernel_rfl) (by kernel_rfl) (fun _ _ _ h => h) (Or.inl ⟨by rfl, ?_⟩) (by assumption) ?_
        rotate_left 1
        · (intro w hSw; (try dsimp only at hSw); go_simp; try with_reducible rfl)
        try simp only [List.getElem_toArray, List.getElem_cons_succ, List.getElem_cons_zero, Act.put, List.setIfInBounds_toArray, List.set_cons_zero, List.set_cons_succ]
        refine wpAnyH_take (i := 19) (oi := _) (v := ?_) rfl (by kernel_rfl) (by kernel_rfl) (by kernel_rfl) (fun _ _ _ h => h) (Or.inl ⟨by rfl, ?_⟩) (by assumption) ?_
        rotate_left 1
        · (intro w hSw; (try dsimp only at hSw); go_simp; try with_reducible rfl)
        try simp only [List.getElem_toArray, List.getElem_cons_succ, List.getElem_cons_zero, Act.put, List.setIfInBounds_toArray, List.set_cons_zero, List.set_cons_succ]
        refine wpAnyH_take (i := 20) (oi := _) (v := ?_) rfl (by kernel_rfl) (by kernel_rfl) (by kernel_rfl) (fun _ _ _ h => h) (Or.inl ⟨by rfl, ?_⟩) (by assumption) ?_
        rotate_left 1
        · (intro w hSw; (try dsimp only at hSw); go_simp; try with_reducible rfl)
        try simp only [List.getElem_toArray, List.getElem_cons_succ, List.getElem_cons_zero, Act.put, List.setIfInBounds_toArray, List.set_cons_zero, List.set_cons_succ]
        refine wpAnyH_take (i := 22) (oi := _) (v := ?_) rfl (by kernel_rfl) (by kernel_rfl) (by kernel_rfl) (fun _ _ _ h => h) (Or.inl ⟨by rfl, ?_⟩) (by assumption) ?_
        rotate_left 1
        · (intro w hSw; (try dsimp only at hSw); go_simp; try with_reducible rfl)
        try simp only [List.getElem_toArray, List.getElem_cons_succ, List.getElem_cons_zero, Act.put, List.setIfInBounds_toArray, List.set_cons_zero, List.set_cons_succ]
        refine wpAnyH_take (i := 24) (oi := _) (v := ?_) rfl (by kernel_rfl) (by kernel_rfl) (by kernel_rfl) (fun _ _ _ h => h) (Or.inl ⟨by rfl, ?_⟩) (by assumption) ?_
        rotate_left 1
        · (intro w hSw; (try dsimp only at hSw); go_simp; try with_reducible rfl)
        try simp only [List.getElem_toArray, List.getElem_cons_succ, List.getElem_cons_zero, Act.put, List.setIfInBounds_toArray, List.set_cons_zero, List.set_cons_succ]
        refine wpAnyH_ready (rs := [21]) (by kernel_rfl) (by simp) ?_
        refine AllReadyH.cons rfl (fun K hK => ?_) AllReadyH.nil
        go_simp
        refine (add_w _ _ X Y 40 _ (by omega) (qX.below c2') (qY.below c2')).mono ?_
        rintro e wd ⟨vd, rfl, hd, bd'⟩
        have c3' : Below wc.heap.size wc wd := below_and c2' (Nat.le_refl _) bd'
        try go_simp
        refine hK.out _ _ ?_ (fun hHeld => ?_)
        · first | assumption | exact hS.out _ (by assumption) | (refine ⟨?_, ?_, ?_, ?_⟩ <;> assumption) | (refine ⟨?_, ?_, ?_, ?_, ?_, ?_⟩ <;> assumption) | go_keep
        clear hK K
        try simp only [List.getElem_toArray, List.getElem_cons_succ, List.getElem_cons_zero, Act.put, List.setIfInBounds_toArray, List.set_cons_zero, List.set_cons_succ]
        refine wpAnyH_ready (rs := [23]) (by kernel_rfl) (by simp) ?_
        refine AllReadyH.cons rfl (fun K hK => ?_) AllReadyH.nil
        go_simp
        refine (sub_w _ _ (X + Y) Y 41 _ (by omega) hd.isN ((qY.below c3').mono (by omega))).mono ?_
        rintro e we ⟨ve, rfl, he, be'⟩
        have c4' : Below wc.heap.size wc we := below_and c3' (Nat.le_refl _) be'
        try go_simp
        refine hK.out _ _ ?_ (fun hHeld => ?_)
        · first | assumption | exact hS.out _ (by assumption) | (refine ⟨?_, ?_, ?_, ?_⟩ <;> assumption) | (refine ⟨?_, ?_, ?_, ?_, ?_, ?_⟩ <;> assumption) | go_keep
        clear hK K
        try simp only [List.getElem_toArray, List.getElem_cons_succ, List.getElem_cons_zero, Act.put, List.setIfInBounds_toArray, List.set_cons_zero, List.set_cons_succ]
        refine wpAnyH_ready (rs := [25]) (by kernel_rfl) (by simp) ?_
        refine AllReadyH.cons rfl (fun K hK => ?_) AllReadyH.nil
        go_simp
        refine (Compare_w _ _ (X + Y - Y) X 42 _ (by omega) he.isN ((qX.below c4').mono (by omega))).mono ?_
        rintro e wf ⟨rfl, bf'⟩
        rw [hE2'.out]
        have c5' : Below wc.heap.size wc wf := below_and c4' (Nat.le_refl _) bf'
        try go_simp
        refine hK.out _ _ ?_ (fun hHeld => ?_)
        · first | assumption | exact hS.out _ (by assumption) | (refine ⟨?_, ?_, ?_, ?_⟩ <;> assumption) | (refine ⟨?_, ?_, ?_, ?_, ?_, ?_⟩ <;> assumption) | go_keep
        clear hK K
        try simp only [List.getElem_toArray, List.getElem_cons_succ, List.getElem_cons_zero, Act.put, List.setIfInBounds_toArray, List.set_cons_zero, List.set_cons_succ]
        refine wpAnyH_take (i := 26) (oi := _) (v := ?_) rfl (by kernel_rfl) (by kernel_rfl) (by kernel_rfl) (fun _ _ _ h => h) (Or.inl ⟨by rfl, ?_⟩) (by assumption) ?_
        rotate_left 1
        · (intro w hSw; (try dsimp only at hSw); go_simp; try with_reducible rfl)
        try simp only [List.getElem_toArray, List.getElem_cons_succ, List.getElem_cons_zero, Act.put, List.setIfInBounds_toArray, List.set_cons_zero, List.set_cons_succ]
        refine wpAnyH_take (i := 27) (oi := _) (v := ?_) rfl (by kernel_rfl) (by kernel_rfl) (by kernel_rfl) (fun _ _ _ h => h) (Or.inl ⟨by rfl, ?_⟩) (by assumption) ?_
        rotate_left 1
        · (intro w hSw; (try dsimp only at hSw); go_simp; try with_reducible rfl)
        try simp only [List.getElem_toArray, List.getElem_cons_succ, List.getElem_cons_zero, Act.put, List.setIfInBounds_toArray, List.set_cons_zero, List.set_cons_succ]
        refine wpAnyH_take (i := 28) (oi := _) (v := ?_) rfl (by kernel_rfl) (by kernel_rfl) (by kernel_rfl) (fun _ _ _ h => h) (Or.inl ⟨by rfl, ?_⟩) (by assumption) ?_
        rotate_left 1
        · (intro w hSw; (try dsimp only at hSw); go_simp; try with_reducible rfl)
        try simp only [List.getElem_toArray, List.getElem_cons_succ, List.getElem_cons_zero, Act.put, List.setIfInBounds_toArray, List.set_cons_zero, List.set_cons_succ]
        refine wpAnyH_take (i := 29) (oi := _) (v := ?_) rfl (by kernel_rfl) (by kernel_rfl) (by kernel_rfl) (fun _ _ _ h => h) (Or.inl ⟨by rfl, ?_⟩) (by assumption) ?_
        rotate_left 1
        · (intro w hSw; (try dsimp only at hSw); go_simp; try with_reducible rfl)
        try simp only [List.getElem_toArray, List.getElem_cons_succ, List.getElem_cons_zero, Act.put, List.setIfInBounds_toArray, List.set_cons_zero, List.set_cons_succ]
        refine wpAnyH_take (i := 30) (oi := _) (v := ?_) rfl (by kernel_rfl) (by kernel_rfl) (by kernel_rfl) (fun _ _ _ h => h) (Or.inl ⟨by rfl, ?_⟩) (by assumption) ?_
        rotate_left 1
        · (intro w hSw; (try dsimp only at hSw); go_simp; try with_reducible rfl)
        try simp only [List.getElem_toArray, List.getElem_cons_succ, List.getElem_cons_zero, Act.put, List.setIfInBounds_toArray, List.set_cons_zero, List.set_cons_succ]
        refine wpAnyH_take (i := 32) (oi := _) (v := ?_) rfl (by kernel_rfl) (by kernel_rfl) (by kernel_rfl) (fun _ _ _ h => h) (Or.inl ⟨by rfl, ?_⟩) (by assumption) ?_
        rotate_left 1
        · (intro w hSw; (try dsimp only at hSw); go_simp; try with_reducible rfl)
        try simp only [List.getElem_toArray, List.getElem_cons_succ, List.getElem_cons_zero, Act.put, List.setIfInBounds_toArray, List.set_cons_zero, List.set_cons_succ]
        refine wpAnyH_take (i := 33) (oi := _) (v := ?_) rfl (by kernel_rfl) (by kernel_rfl) (by kernel_rfl) (fun _ _ _ h => h) (Or.inl ⟨by rfl, ?_⟩) (by assumption) ?_
        rotate_left 1
        · (intro w hSw; (try dsimp only at hSw); go_simp; try with_reducible rfl)
        try simp only [List.getElem_toArray, List.getElem_cons_succ, List.getElem_cons_zero, Act.put, List.setIfInBounds_toArray, List.set_cons_zero, List.set_cons_succ]
        refine wpAnyH_ready (rs := [31]) (by kernel_rfl) (by simp) ?_
        refine AllReadyH.cons rfl (fun K hK => ?_) AllReadyH.nil
        go_simp
        refine (Compare_w _ _ X Y 40 _ (by omega) (qX.below c5') (qY.below c5')).mono ?_
        rintro e wg ⟨rfl, bg'⟩
        rw [hC'.out]
        have c6' : Below wc.heap.size wc wg := below_and c5' (Nat.le_refl _) bg'
        try go_simp
        refine hK.out _ _ ?_ (fun hHeld => ?_)
        · first | assumption | exact hS.out _ (by assumption) | (refine ⟨?_, ?_, ?_, ?_⟩ <;> assumption) | (refine ⟨?_, ?_, ?_, ?_, ?_, ?_⟩ <;> assumption) | go_keep
        clear hK K
        try simp only [List.getElem_toArray, List.getElem_cons_succ, List.getElem_cons_zero, Act.put, List.setIfInBounds_toArray, List.set_cons_zero, List.set_cons_succ]
        refine wpAnyH_ready (rs := [34]) (by kernel_rfl) (by simp) ?_
        refine AllReadyH.cons rfl (fun K hK => ?_) AllReadyH.nil
        go_simp
        refine (Compare_w _ _ Y X 40 _ (by omega) (qY.below c6') (qX.below c6')).mono ?_
        rintro e wh ⟨rfl, bh'⟩
        rw [hD'.out]
        have c7' : Below wc.heap.size wc wh := below_and c6' (Nat.le_refl _) bh'
        try go_simp
        refine hK.out _ _ ?_ (fun hHeld => ?_)
        · first | assumption | exact hS.out _ (by assumption) | (refine ⟨?_, ?_, ?_, ?_⟩ <;> assumption) | (refine ⟨?_, ?_, ?_, ?_, ?_, ?_⟩ <;> assumption) | go_keep
        clear hK K
        try simp only [List.getElem_toArray, List.getElem_cons_succ, List.getElem_cons_zero, Act.put, List.setIfInBounds_toArray, List.set_cons_zero, List.set_cons_succ]
        refine wpAnyH_take (i := 35) (oi := _) (v := ?_) rfl (by kernel_rfl) (by kernel_rfl) (by kernel_rfl) (fun _ _ _ h => h) (Or.inl ⟨by rfl, ?_⟩) (by assumption) ?_
        rotate_left 1
        · (intro w hSw; (try dsimp only at hSw); go_simp; try with_reducible rfl)
        try simp only [List.getElem_toArray, List.getElem_cons_succ, List.getElem_cons_zero, Act.put, List.setIfInBounds_toArray, List.set_cons_zero, List.set_cons_succ]
        refine wpAnyH_take (i := 36) (oi := _) (v := ?_) rfl (by kernel_rfl) (by kernel_rfl) (by kernel_rfl) (fun _ _ _ h => h) (Or.inl ⟨by rfl, ?_⟩) (by assumption) ?_
        rotate_left 1
        · (intro w hSw; (try dsimp only at hSw); go_simp; try with_reducible rfl)
        try simp only [List.getElem_toArray, List.getElem_cons_succ, List.getElem_cons_zero, Act.put, List.setIfInBounds_toArray, List.set_cons_zero, List.set_cons_succ]
        refine wpAnyH_take (i := 37) (oi := _) (v := ?_) rfl (by kernel_rfl) (by kernel_rfl) (by kernel_rfl) (fun _ _ _ h => h) (Or.inl ⟨by rfl, ?_⟩) (by assumption) ?_
        rotate_left 1
        · (intro w hSw; (try dsimp only at hSw); go_simp; try with_reducible rfl)
        try simp only [List.getElem_toArray, List.getElem_cons_succ, List.getElem_cons_zero, Act.put, List.setIfInBounds_toArray, List.set_cons_zero, List.set_cons_succ]
        refine wpAnyH_done (by kernel_rfl) ?_ _
        go_wp2_with fail
        go_meet
        exact ⟨rfl, c7'⟩
      case rest =>
        obtain ⟨rfl, bC⟩ := hcut
        have B10 := below_and' B9 hgw9 bC
        have hgw10 : w.heap.size ≤ wc.heap.size := Nat.le_trans hgw9 bC.size
        have nX := mX.below bC lX
        have nY := mY.below bC lY
        have nB := mB.below bC lB
        have pX := qX.below bC
        have pY := qY.below bC
        have lX' := nX.lt
        have lY' := nY.lt
        have lB' := nB.lt
        clear mX mY mB mP mQ kS hP hQ hS9 qX qY B9 hgw9 lX lY lB lP' lQ' lS hE1 hE2 bC
        obtain ⟨x1, x2, x3, x4⟩ := id nX
        obtain ⟨y1, y2, y3, y4⟩ := id nY
        go_wp2_with fail
        refine (div_w _ _ X Y 40 _ (by omega) (by omega) pX pY).mono ?_
        rintro e w11 ⟨q11, r11, rfl, hq, hr, b11⟩
        obtain ⟨dq, oq, nq, cq, rfl⟩ := hq.shape
        obtain ⟨dr, od, nr, cr, rfl⟩ := hr.shape
        obtain ⟨kq, kr, hB12, hz12⟩ := boxes2 w11 (.bool dq) (.slice oq nq cq) (.bool dr) (.slice od nr cr) 25 25
        have b12 := below_and b11 (Nat.le_refl _) hB12
        have B12 := below_and' B10 hgw10 b12
        have hs11 := b11.size
        have nX12 := nX.below b12 lX'
        have nY12 := nY.below b12 lY'
        have nB12 := nB.below b12 lB'
        have nY11 := nY.below b11 lY'
        have nB11 := nB.below b11 lB'
        have lX := nX12.lt
        have lY := nY12.lt
        have lB := nB12.lt
        have lq := kq.lt
        have lr := kr.lt
        clear x1 x2 x3 x4 y1 y2 y3 y4
        by_cases hY0 : Y = 0
        · have hok : decide (Y ≠ 0) = false := by simp [hY0]
          rw [hok]
          obtain ⟨u1, u2, u3, u4⟩ := id nB12
          obtain ⟨u5, u6, u7, u8⟩ := id nB11
          have hfd := field34
          have hY0' := hid hY0
          clear hY0 hok
          go_wp2_with fail
          generalize ((w11.alloc (.cells #[.bool dq, .slice oq nq cq] 25)).alloc (.cells #[.bool dr, .slice od nr cr] 25)) = W12 at *
          refine (rnorm_w _ Y 40 _ (by omega) (pY.below b12)).mono ?_
          rintro e w13 ⟨sl2, rfl, hF2, hk2, b13⟩
          obtain ⟨o2, c2, rfl, L2, z2, _⟩ := hF2.parts
          have hl0 : ((glim 4294967296 Y.natAbs).length : Int) = 0 := glim_len0.2 hY0'.out
          have B13 := below_and' B12 (Nat.le_trans hgw10 (by omega)) b13
          go_wp2
          go_ret
          exact ⟨rfl, B13⟩
        · have hok : decide (Y ≠ 0) = true := by simp [hY0]
          rw [hok]
          clear hok
          have hQY : mulOk (X.tdiv Y) Y = true := mulOk_of (a := 40) (b := 40) (tdiv_lt hXm) hYm (by omega)
          rw [if_neg hY0] at hr
          have hr12 := hr.below hB12
          have hq12 := hq.below hB12
          have pX12 := pX.below b12
          have pY12 := pY.below b12
          have hs12 : wc.heap.size ≤ w11.heap.size := hs11
          have hY0' := hid hY0
          clear hY0
          obtain ⟨u1, u2, u3, u4⟩ := id nY12
          obtain ⟨u5, u6, u7, u8⟩ := id nY11
          obtain ⟨u9, u10, u11, u12⟩ := id kq
          go_wp2_with fail
          generalize ((w11.alloc (.cells #[.bool dq, .slice oq nq cq] 25)).alloc (.cells #[.bool dr, .slice od nr cr] 25)) = W12 at *
          have hgw12 : w.heap.size ≤ W12.heap.size := by omega
          generalize w11.heap.size = gq' at *
          refine (mul_w _ _ (X.tdiv Y) Y 40 _ (by omega) hq12.isN pY12).mono ?_
          rintro e w14 ⟨v14, rfl, h14, b14⟩
          rw [hQY] at h14 ⊢
          rw [if_pos rfl] at h14
          obtain ⟨dm, om, nm, cm, rfl⟩ := h14.shape
          have kr14 := kr.below b14 lr
          have nX14 := nX12.below b14 lX
          have nY14 := nY12.below b14 lY
          have hr14 := hr12.below b14
          have pX14 := pX12.below b14
          have pY14 := pY12.below b14
          have B14 := below_and' B12 hgw12 b14
          have s14 := b14.size
          have lr14 := kr14.lt
          have lX14 := nX14.lt
          have lY14 := nY14.lt
          clear u1 u2 u3 u4 u5 u6 u7 u8 u9 u10 u11 u12 nX12 nY12 nX nY nY11 nB11 nB12 nB kq kr hq hq12 hr hr12 pX pY pX12 pY12 B12 B10 b11 b12 hB12 hz12 hs11 hs12 hQY lX lY lB lq lr lX' lY' lB' hgw10
          obtain ⟨u1, u2, u3, u4⟩ := id kr14
          obtain ⟨u5, u6, u7, u8⟩ := id nY14
          obtain ⟨km, kab, hB15, hz15⟩ := boxes2 w14 (.bool dm) (.slice om nm cm) (.bool false) (.slice od nr cr) 25 25
          go_wp2_with fail
          generalize ((w14.alloc (.cells #[.bool dm, .slice om nm cm] 25)).alloc (.cells #[.bool false, .slice od nr cr] 25)) = W15 at *
          have hm15 := h14.below hB15
          have lm := km.lt
          have lab := kab.lt
          have gw14 : w.heap.size ≤ w14.heap.size := by omega
          have B15 := below_and' B14 gw14 hB15
          have hgw15 : w.heap.size ≤ W15.heap.size := by omega
          have kr15 := kr14.below hB15 lr14
          have nX15 := nX14.below hB15 lX14
          have hr15 := hr14.below hB15
          have pX15 := pX14.below hB15
          have pY15 := pY14.below hB15
          generalize w14.heap.size = gm at *
          have lr15 := kr15.lt
          have lX15 := nX15.lt
          clear u1 u2 u3 u4 u5 u6 u7 u8
          refine (norm_w _ Y 40 _ (by omega) pY15).mono ?_
          rintro e w16 ⟨sl16, rfl, hF16, hk16, b16⟩
          have hN16 := (hF16.isC hk16).isN
          obtain ⟨of', cf, rfl, _, _, _⟩ := hF16.parts
          obtain ⟨nf, hnf⟩ : ∃ nf, (glim 4294967296 Y.natAbs).length = nf := ⟨_, rfl⟩
          rw [hnf] at hN16 ⊢
          clear hnf hF16 hk16
          obtain ⟨kof, hB17, hz17⟩ := newbox w16 (.bool false) (.slice of' nf cf) 25
          have b17 := below_and b16 (Nat.le_refl _) hB17
          have hm17 := hm15.below b17
          have km17 := km.below b17 lm
          have kab17 := kab.below b17 lab
          have kr17 := kr15.below b17 lr15
          have nX17 := nX15.below b17 lX15
          have hr17 := hr15.below b17
          have pX17 := pX15.below b17
          have hN17 := hN16.below hB17
          have B17 := below_and' B15 hgw15 b17
          have s17 := b17.size
          go_wp2_with fail
          generalize (w16.alloc (.cells #[.bool false, .slice of' nf cf] 25)) = W17 at *
          have gw17 : w.heap.size ≤ W17.heap.size := by omega
          generalize w16.heap.size = gf at *
          clear b14 b16 b17 hB15 hB17 hz15 hz17 B15 B14 hm15 km kab kr15 nX15 hr15 pX15 hN16 h14 hr14 pX14 pY14 pY15 kr14 nX14 nY14
          obtain ⟨hr1, hr2⟩ := hr17.parts
          have lm := km17.lt
          have lab := kab17.lt
          have lr := kr17.lt
          have lX := nX17.lt
          have lf := kof.lt
          have eB : Hid (cmpZ (X.tdiv Y * Y + X.tmod Y) X = 0) := hid (by rw [div_back, cmpZ_eq])
          have eS : Hid (cmpZ ((X.tmod Y).natAbs : Int) (Y.natAbs : Int) = -1) := hid (mod_small hY0'.out)
          have hab := hr17.isN.abs
          have hof := hN17.abs
          have hDr : Below W17.heap.size W17 W17.drew := (Below.refl _ _).drew
          have hS : Hid (∀ w', Below W17.heap.size W17 w' → w'.cell? ⟨gm, 0, none⟩ = some (.bool dm) ∧ w'.cell? ⟨gm, 1, none⟩ = some (.slice om nm cm) ∧ w'.cell? ⟨gm + 1, 0, none⟩ = some (.bool false) ∧ w'.cell? ⟨gm + 1, 1, none⟩ = some (.slice od nr cr) ∧ w'.cell? ⟨gf, 0, none⟩ = some (.bool false) ∧ w'.cell? ⟨gf, 1, none⟩ = some (.slice of' nf cf) ∧ w'.cell? ⟨g7, 0, none⟩ = some (.bool na) ∧ w'.cell? ⟨g7, 1, none⟩ = some (.slice oa la.length ca) ∧ w'.cell? ⟨gq' + 1, 0, none⟩ = some (.bool dr) ∧ w'.cell? ⟨gq' + 1, 1, none⟩ = some (.slice od nr cr)) := fun w' hb =>
            ⟨(km17.below hb lm).1, (km17.below hb lm).2.1, (kab17.below hb lab).1, (kab17.below hb lab).2.1, (kof.below hb lf).1, (kof.below hb lf).2.1, (nX17.below hb lX).1, (nX17.below hb lX).2.1, (kr17.below hb lr).1, (kr17.below hb lr).2.1⟩
          refine wp_region_held_drew (S := fun w' => w'.cell? ⟨gm, 0, none⟩ = some (.bool dm) ∧ w'.cell? ⟨gm, 1, none⟩ = some (.slice om nm cm) ∧ w'.cell? ⟨gm + 1, 0, none⟩ = some (.bool false) ∧ w'.cell? ⟨gm + 1, 1, none⟩ = some (.slice od nr cr) ∧ w'.cell? ⟨gf, 0, none⟩ = some (.bool false) ∧ w'.cell? ⟨gf, 1, none⟩ = some (.slice of' nf cf) ∧ w'.cell? ⟨g7, 0, none⟩ = some (.bool na) ∧ w'.cell? ⟨g7, 1, none⟩ = some (.slice oa la.length ca) ∧ w'.cell? ⟨gq' + 1, 0, none⟩ = some (.bool dr) ∧ w'.cell? ⟨gq' + 1, 1, none⟩ = some (.slice od nr cr)) (by kernel_rfl) (hS.out _ hDr) (fun hHeld => ?_)
          by_cases hR0 : X.tmod Y = 0
          · have hnr : (nr : Int) = 0 := by rw [hr2]; exact glim_len0.2 hR0
            have hnr' : nr = 0 := by omega
            subst hnr'
            have hR0' := hid hR0
            clear hr1 hr2 hR0 hnr
            refine wpAnyH_take (i := 0) (oi := _) (v := ?_) rfl (by kernel_rfl) (by kernel_rfl) (by kernel_rfl) (fun _ _ _ h => h) (Or.inl ⟨by rfl, ?_⟩) (by assumption) ?_
            rotate_left 1
            · (intro w hSw; (try dsimp only at hSw); go_simp; try with_reducible rfl)
            try simp only [List.getElem_toArray, List.getElem_cons_succ, List.getElem_cons_zero, Act.put, List.setIfInBounds_toArray, List.set_cons_zero, List.set_cons_succ]
            refine wpAnyH_take (i := 1) (oi := _) (v := ?_) rfl (by kernel_rfl) (by kernel_rfl) (by kernel_rfl) (fun _ _ _ h => h) (Or.inl ⟨by rfl, ?_⟩) (by assumption) ?_
            rotate_left 1
            · (intro w hSw; (try dsimp only at hSw); go_simp; try with_reducible rfl)
            try simp only [List.getElem_toArray, List.getElem_cons_succ, List.getElem_cons_zero, Act.put, List.setIfInBounds_toArray, List.set_cons_zero, List.set_cons_succ]
            refine wpAnyH_take (i := 2) (oi := _) (v := ?_) rfl (by kernel_rfl) (by kernel_rfl) (by kernel_rfl) (fun _ _ _ h => h) (Or.inl ⟨by rfl, ?_⟩) (by assumption) ?_
            rotate_left 1
            · (intro w hSw; (try dsimp only at hSw); go_simp; try with_reducible rfl)
            try simp only [List.getElem_toArray, List.getElem_cons_succ, List.getElem_cons_zero, Act.put, List.setIfInBounds_toArray, List.set_cons_zero, List.set_cons_succ]
            refine wpAnyH_take (i := 3) (oi := _) (v := ?_) rfl (by kernel_rfl) (by kernel_rfl) (by kernel_rfl) (fun _ _ _ h => h) (Or.inl ⟨by rfl, ?_⟩) (by assumption) ?_
            rotate_left 1
            · (intro w hSw; (try dsimp only at hSw); go_simp; try with_reducible rfl)
            try simp only [List.getElem_toArray, List.getElem_cons_succ, List.getElem_cons_zero, Act.put, List.setIfInBounds_toArray, List.set_cons_zero, List.set_cons_succ]
            refine wpAnyH_take (i := 5) (oi := _) (v := ?_) rfl (by kernel_rfl) (by kernel_rfl) (by kernel_rfl) (fun _ _ _ h => h) (Or.inl ⟨by rfl, ?_⟩) (by assumption) ?_
            rotate_left 1
            · (intro w hSw; (try dsimp only at hSw); go_simp; try with_reducible rfl)
            try simp only [List.getElem_toArray, List.getElem_cons_succ, List.getElem_cons_zero, Act.put, List.setIfInBounds_toArray, List.set_cons_zero, List.set_cons_succ]
            refine wpAnyH_ready (rs := [4]) (by kernel_rfl) (by simp) ?_
            refine AllReadyH.cons rfl (fun K hK => ?_) AllReadyH.nil
            go_simp
            refine (add_w _ _ (X.tdiv Y * Y) (X.tmod Y) 128 _ (by omega) (hm17.below hDr).isN ((hr17.below hDr).mono (by omega)).isN).mono ?_
            rintro e wa ⟨va, rfl, ha, ba'⟩
            have c1' : Below W17.heap.size W17 wa := below_of_drew ba'
            try go_simp
            refine hK.out _ _ ?_ (fun hHeld => ?_)
            · first | assumption | exact hS.out _ (by assumption) | (refine ⟨?_, ?_, ?_, ?_⟩ <;> assumption) | (refine ⟨?_, ?_, ?_, ?_, ?_, ?_⟩ <;> assumption) | go_keep
            clear hK K
            try simp only [List.getElem_toArray, List.getElem_cons_succ, List.getElem_cons_zero, Act.put, List.setIfInBounds_toArray, List.set_cons_zero, List.set_cons_succ]
            refine wpAnyH_ready (rs := [6]) (by kernel_rfl) (by simp) ?_
            refine AllReadyH.cons rfl (fun K hK => ?_) AllReadyH.nil
            go_simp
            refine (Compare_w _ _ (X.tdiv Y * Y + X.tmod Y) X 129 _ (by omega) ha.isN ((pX17.below c1').mono (by omega))).mono ?_
            rintro e wb ⟨rfl, bb'⟩
            rw [eB.out]
            have c2' : Below W17.heap.size W17 wb := below_and c1' (Nat.le_refl _) bb'
            try go_simp
            refine hK.out _ _ ?_ (fun hHeld => ?_)
            · first | assumption | exact hS.out _ (by assumption) | (refine ⟨?_, ?_, ?_, ?_⟩ <;> assumption) | (refine ⟨?_, ?_, ?_, ?_, ?_, ?_⟩ <;> assumption) | go_keep
            clear hK K
            try simp only [List.getElem_toArray, List.getElem_cons_succ, List.getElem_cons_zero, Act.put, List.setIfInBounds_toArray, List.set_cons_zero, List.set_cons_succ]
            refine wpAnyH_take (i := 7) (oi := _) (v := ?_) rfl (by kernel_rfl) (by kernel_rfl) (by kernel_rfl) (fun _ _ _ h => h) (Or.inl ⟨by rfl, ?_⟩) (by assumption) ?_
            rotate_left 1
            · (intro w hSw; (try dsimp only at hSw); go_simp; try with_reducible rfl)
            try simp only [List.getElem_toArray, List.getElem_cons_succ, List.getElem_cons_zero, Act.put, List.setIfInBounds_toArray, List.set_cons_zero, List.set_cons_succ]
            refine wpAnyH_take (i := 8) (oi := _) (v := ?_) rfl (by kernel_rfl) (by kernel_rfl) (by kernel_rfl) (fun _ _ _ h => h) (Or.inl ⟨by rfl, ?_⟩) (by assumption) ?_
            rotate_left 1
            · (intro w hSw; (try dsimp only at hSw); go_simp; try with_reducible rfl)
            try simp only [List.getElem_toArray, List.getElem_cons_succ, List.getElem_cons_zero, Act.put, List.setIfInBounds_toArray, List.set_cons_zero, List.set_cons_succ]
            refine wpAnyH_take (i := 9) (oi := _) (v := ?_) rfl (by kernel_rfl) (by kernel_rfl) (by kernel_rfl) (fun _ _ _ h => h) (Or.inl ⟨by rfl, ?_⟩) (by assumption) ?_
            rotate_left 1
            · (intro w hSw; (try dsimp only at hSw); go_simp; try with_reducible rfl)
            try simp only [List.getElem_toArray, List.getElem_cons_succ, List.getElem_cons_zero, Act.put, List.setIfInBounds_toArray, List.set_cons_zero, List.set_cons_succ]
            refine wpAnyH_take (i := 10) (oi := _) (v := ?_) rfl (by kernel_rfl) (by kernel_rfl) (by kernel_rfl) (fun _ _ _ h => h) (Or.inl ⟨by rfl, ?_⟩) (by assumption) ?_
            rotate_left 1
            · (intro w hSw; (try dsimp only at hSw); go_simp; try with_reducible rfl)
            try simp only [List.getElem_toArray, List.getElem_cons_succ, List.getElem_cons_zero, Act.put, List.setIfInBounds_toArray, List.set_cons_zero, List.set_cons_succ]
            refine wpAnyH_take (i := 11) (oi := _) (v := ?_) rfl (by kernel_rfl) (by kernel_rfl) (by kernel_rfl) (fun _ _ _ h => h) (Or.inl ⟨by rfl, ?_⟩) (by assumption) ?_
            rotate_left 1
            · (intro w hSw; (try dsimp only at hSw); go_simp; try with_reducible rfl)
            try simp only [List.getElem_toArray, List.getElem_cons_succ, List.getElem_cons_zero, Act.put, List.setIfInBounds_toArray, List.set_cons_zero, List.set_cons_succ]
            refine wpAnyH_ready (rs := [12]) (by kernel_rfl) (by simp) ?_
            refine AllReadyH.cons rfl (fun K hK => ?_) AllReadyH.nil
            go_simp
            refine (Compare_w _ _ ((X.tmod Y).natAbs : Int) (Y.natAbs : Int) 40 _ (by omega) (hab.below c2') (hof.below c2')).mono ?_
            rintro e wd ⟨rfl, bd'⟩
            rw [eS.out]
            have c3' : Below W17.heap.size W17 wd := below_and c2' (Nat.le_refl _) bd'
            try go_simp
            refine hK.out _ _ ?_ (fun hHeld => ?_)
            · first | assumption | exact hS.out _ (by assumption) | (refine ⟨?_, ?_, ?_, ?_⟩ <;> assumption) | (refine ⟨?_, ?_, ?_, ?_, ?_, ?_⟩ <;> assumption) | go_keep
            clear hK K
            try simp only [List.getElem_toArray, List.getElem_cons_succ, List.getElem_cons_zero, Act.put, List.setIfInBounds_toArray, List.set_cons_zero, List.set_cons_succ]
            refine wpAnyH_take (i := 13) (oi := _) (v := ?_) rfl (by kernel_rfl) (by kernel_rfl) (by kernel_rfl) (fun _ _ _ h => h) (Or.inl ⟨by rfl, ?_⟩) (by assumption) ?_
            rotate_left 1
            · (intro w hSw; (try dsimp only at hSw); go_simp; try with_reducible rfl)
            try simp only [List.getElem_toArray, List.getElem_cons_succ, List.getElem_cons_zero, Act.put, List.setIfInBounds_toArray, List.set_cons_zero, List.set_cons_succ]
            refine wpAnyH_take (i := 14) (oi := _) (v := ?_) rfl (by kernel_rfl) (by kernel_rfl) (by kernel_rfl) (fun _ _ _ h => h) (Or.inl ⟨by rfl, ?_⟩) (by assumption) ?_
            rotate_left 1
            · (intro w hSw; (try dsimp only at hSw); go_simp; try with_reducible rfl)
            try simp only [List.getElem_toArray, List.getElem_cons_succ, List.getElem_cons_zero, Act.put, List.setIfInBounds_toArray, List.set_cons_zero, List.set_cons_succ]
            refine wpAnyH_take (i := 15) (oi := _) (v := ?_) rfl (by kernel_rfl) (by kernel_rfl) (by kernel_rfl) (fun _ _ _ h => h) (Or.inl ⟨by rfl, ?_⟩) (by assumption) ?_
            rotate_left 1
            · (intro w hSw; (try dsimp only at hSw); go_simp; try with_reducible rfl)
            try simp only [List.getElem_toArray, List.getElem_cons_succ, List.getElem_cons_zero, Act.put, List.setIfInBounds_toArray, List.set_cons_zero, List.set_cons_succ]
            refine wpAnyH_take (i := 16) (oi := _) (v := ?_) rfl (by kernel_rfl) (by kernel_rfl) (by kernel_rfl) (fun _ _ _ h => h) (Or.inl ⟨by rfl, ?_⟩) (by assumption) ?_
            rotate_left 1
            · (intro w hSw; (try dsimp only at hSw); go_simp; try with_reducible rfl)
            try simp only [List.getElem_toArray, List.getElem_cons_succ, List.getElem_cons_zero, Act.put, List.setIfInBounds_toArray, List.set_cons_zero, List.set_cons_succ]
            refine wpAnyH_take (i := 17) (oi := _) (v := ?_) rfl (by kernel_rfl) (by kernel_rfl) (by kernel_rfl) (fun _ _ _ h => h) (Or.inl ⟨by rfl, ?_⟩) (by assumption) ?_
            rotate_left 1
            · (intro w hSw; (try dsimp only at hSw); go_simp; try with_reducible rfl)
            try simp only [List.getElem_toArray, List.getElem_cons_succ, List.getElem_cons_zero, Act.put, List.setIfInBounds_toArray, List.set_cons_zero, List.set_cons_succ]
            refine wpAnyH_take (i := 18) (oi := _) (v := ?_) rfl (by kernel_rfl) (by kernel_rfl) (by kernel_rfl) (fun _ _ _ h => h) (Or.inl ⟨by rfl, ?_⟩) (by assumption) ?_
            rotate_left 1
            · (intro w hSw; (try dsimp only at hSw); go_simp; try with_reducible rfl)
            try simp only [List.getElem_toArray, List.getElem_cons_succ, List.getElem_cons_zero, Act.put, List.setIfInBounds_toArray, List.set_cons_zero, List.set_cons_succ]
            refine wpAnyH_take (i := 19) (oi := _) (v := ?_) rfl (by kernel_rfl) (by kernel_rfl) (by kernel_rfl) (fun _ _ _ h => h) (Or.inl ⟨by rfl, ?_⟩) (by assumption) ?_
            rotate_left 1
            · (intro w hSw; (try dsimp only at hSw); go_simp; try with_reducible rfl)
            try simp only [List.getElem_toArray, List.getElem_cons_succ, List.getElem_cons_zero, Act.put, List.setIfInBounds_toArray, List.set_cons_zero, List.set_cons_succ]
            refine wpAnyH_take (i := 20) (oi := _) (v := ?_) rfl (by kernel_rfl) (by kernel_rfl) (by kernel_rfl) (fun _ _ _ h => h) (Or.inl ⟨by rfl, ?_⟩) (by assumption) ?_
            rotate_left 1
            · (intro w hSw; (try dsimp only at hSw); go_simp; try with_reducible rfl)
            try simp only [List.getElem_toArray, List.getElem_cons_succ, List.getElem_cons_zero, Act.put, List.setIfInBounds_toArray, List.set_cons_zero, List.set_cons_succ]
            refine wpAnyH_take (i := 21) (oi := _) (v := undef) rfl (by kernel_rfl) (by kernel_rfl) (by kernel_rfl) (fun _ _ _ h => h) (Or.inr ⟨by rfl, rfl⟩) (by assumption) ?_
            try simp only [List.getElem_toArray, List.getElem_cons_succ, List.getElem_cons_zero, Act.put, List.setIfInBounds_toArray, List.set_cons_zero, List.set_cons_succ]
            refine wpAnyH_take (i := 22) (oi := _) (v := undef) rfl (by kernel_rfl) (by kernel_rfl) (by kernel_rfl) (fun _ _ _ h => h) (Or.inr ⟨by rfl, rfl⟩) (by assumption) ?_
            try simp only [List.getElem_toArray, List.getElem_cons_succ, List.getElem_cons_zero, Act.put, List.setIfInBounds_toArray, List.set_cons_zero, List.set_cons_succ]
            refine wpAnyH_take (i := 23) (oi := _) (v := undef) rfl (by kernel_rfl) (by kernel_rfl) (by kernel_rfl) (fun _ _ _ h => h) (Or.inr ⟨by rfl, rfl⟩) (by assumption) ?_
            try simp only [List.getElem_toArray, List.getElem_cons_succ, List.getElem_cons_zero, Act.put, List.setIfInBounds_toArray, List.set_cons_zero, List.set_cons_succ]
            refine wpAnyH_take (i := 24) (oi := _) (v := undef) rfl (by kernel_rfl) (by kernel_rfl) (by kernel_rfl) (fun _ _ _ h => h) (Or.inr ⟨by rfl, rfl⟩) (by assumption) ?_
            try simp only [List.getElem_toArray, List.getElem_cons_succ, List.getElem_cons_zero, Act.put, List.setIfInBounds_toArray, List.set_cons_zero, List.set_cons_succ]
            refine wpAnyH_take (i := 25) (oi := _) (v := undef) rfl (by kernel_rfl) (by kernel_rfl) (by kernel_rfl) (fun _ _ _ h => h) (Or.inr ⟨by rfl, rfl⟩) (by assumption) ?_
            try simp only [List.getElem_toArray, List.getElem_cons_succ, List.getElem_cons_zero, Act.put, List.setIfInBounds_toArray, List.set_cons_zero, List.set_cons_succ]
            refine wpAnyH_take (i := 26) (oi := _) (v := undef) rfl (by kernel_rfl) (by kernel_rfl) (by kernel_rfl) (fun _ _ _ h => h) (Or.inr ⟨by rfl, rfl⟩) (by assumption) ?_
            try simp only [List.getElem_toArray, List.getElem_cons_succ, List.getElem_cons_zero, Act.put, List.setIfInBounds_toArray, List.set_cons_zero, List.set_cons_succ]
            refine wpAnyH_take (i := 27) (oi := _) (v := ?_) rfl (by kernel_rfl) (by kernel_rfl) (by kernel_rfl) (fun _ _ _ h => h) (Or.inl ⟨by rfl, ?_⟩) (by assumption) ?_
            rotate_left 1
            · (intro w hSw; (try dsimp only at hSw); go_simp; try with_reducible rfl)
            try simp only [List.getElem_toArray, List.getElem_cons_succ, List.getElem_cons_zero, Act.put, List.setIfInBounds_toArray, List.set_cons_zero, List.set_cons_succ]
            refine wpAnyH_take (i := 28) (oi := _) (v := ?_) rfl (by kernel_rfl) (by kernel_rfl) (by kernel_rfl) (fun _ _ _ h => h) (Or.inl ⟨by rfl, ?_⟩) (by assumption) ?_
            rotate_left 1
            · (intro w hSw; (try dsimp only at hSw); go_simp; try with_reducible rfl)
            try simp only [List.getElem_toArray, List.getElem_cons_succ, List.getElem_cons_zero, Act.put, List.setIfInBounds_toArray, List.set_cons_zero, List.set_cons_succ]
            refine wpAnyH_take (i := 29) (oi := _) (v := ?_) rfl (by kernel_rfl) (by kernel_rfl) (by kernel_rfl) (fun _ _ _ h => h) (Or.inl ⟨by rfl, ?_⟩) (by assumption) ?_
            rotate_left 1
            · (intro w hSw; (try dsimp only at hSw); go_simp; try with_reducible rfl)
            try simp only [List.getElem_toArray, List.getElem_cons_succ, List.getElem_cons_zero, Act.put, List.setIfInBounds_toArray, List.set_cons_zero, List.set_cons_succ]
            refine wpAnyH_done (by kernel_rfl) ?_ _
            go_wp2_with fail
            go_ret
            exact ⟨rfl, below_and' B17 gw17 c3'⟩
          · have hnr : ((nr : Int) == 0) = false := by
              rw [hr2, beq_eq_false_iff_ne]; exact fun e => hR0 (glim_len0.1 e)
            have hsg : dr = decide (X < 0) := by rw [hr1]; exact mod_sign hR0
            have hR0' := hid hR0
            subst hsg
            obtain ⟨dx, hdx⟩ : ∃ dx, decide (X < 0) = dx := ⟨_, rfl⟩
            rw [hdx] at hHeld
            have hdx' := hid hdx
            have hfd := field25
            simp only [hdx] at hS hab hr17 kr17 ⊢
            clear hr1 hr2 hR0 hdx
            refine wpAnyH_take (i := 0) (oi := _) (v := ?_) rfl (by kernel_rfl) (by kernel_rfl) (by kernel_rfl) (fun _ _ _ h => h) (Or.inl ⟨by rfl, ?_⟩) (by assumption) ?_
            rotate_left 1
            · (intro w hSw; (try dsimp only at hSw); go_simp; try with_reducible rfl)
            try simp only [List.getElem_toArray, List.getElem_cons_succ, List.getElem_cons_zero, Act.put, List.setIfInBounds_toArray, List.set_cons_zero, List.set_cons_succ]
            refine wpAnyH_take (i := 1) (oi := _) (v := ?_) rfl (by kernel_rfl) (by kernel_rfl) (by kernel_rfl) (fun _ _ _ h => h) (Or.inl ⟨by rfl, ?_⟩) (by assumption) ?_
            rotate_left 1
            · (intro w hSw; (try dsimp only at hSw); go_simp; try with_reducible rfl)
            try simp only [List.getElem_toArray, List.getElem_cons_succ, List.getElem_cons_zero, Act.put, List.setIfInBounds_toArray, List.set_cons_zero, List.set_cons_succ]
            refine wpAnyH_take (i := 2) (oi := _) (v := ?_) rfl (by kernel_rfl) (by kernel_rfl) (by kernel_rfl) (fun _ _ _ h => h) (Or.inl ⟨by rfl, ?_⟩) (by assumption) ?_
            rotate_left 1
            · (intro w hSw; (try dsimp only at hSw); go_simp; try with_reducible rfl)
            try simp only [List.getElem_toArray, List.getElem_cons_succ, List.getElem_cons_zero, Act.put, List.setIfInBounds_toArray, List.set_cons_zero, List.set_cons_succ]
            refine wpAnyH_take (i := 3) (oi := _) (v := ?_) rfl (by kernel_rfl) (by kernel_rfl) (by kernel_rfl) (fun _ _ _ h => h) (Or.inl ⟨by rfl, ?_⟩) (by assumption) ?_
            rotate_left 1
            · (intro w hSw; (try dsimp only at hSw); go_simp; try with_reducible rfl)
            try simp only [List.getElem_toArray, List.getElem_cons_succ, List.getElem_cons_zero, Act.put, List.setIfInBounds_toArray, List.set_cons_zero, List.set_cons_succ]
            refine wpAnyH_take (i := 5) (oi := _) (v := ?_) rfl (by kernel_rfl) (by kernel_rfl) (by kernel_rfl) (fun _ _ _ h => h) (Or.inl ⟨by rfl, ?_⟩) (by assumption) ?_
            rotate_left 1
            · (intro w hSw; (try dsimp only at hSw); go_simp; try with_reducible rfl)
            try simp only [List.getElem_toArray, List.getElem_cons_succ, List.getElem_cons_zero, Act.put, List.setIfInBounds_toArray, List.set_cons_zero, List.set_cons_succ]
            refine wpAnyH_ready (rs := [4]) (by kernel_rfl) (by simp) ?_
            refine AllReadyH.cons rfl (fun K hK => ?_) AllReadyH.nil
            go_simp
            refine (add_w _ _ (X.tdiv Y * Y) (X.tmod Y) 128 _ (by omega) (hm17.below hDr).isN ((hr17.below hDr).mono (by omega)).isN).mono ?_
            rintro e wa ⟨va, rfl, ha, ba'⟩
            have c1' : Below W17.heap.size W17 wa := below_of_drew ba'
            try go_simp
            refine hK.out _ _ ?_ (fun hHeld => ?_)
            · first | assumption | exact hS.out _ (by assumption) | (refine ⟨?_, ?_, ?_, ?_⟩ <;> assumption) | (refine ⟨?_, ?_, ?_, ?_, ?_, ?_⟩ <;> assumption) | go_keep
            clear hK K
            try simp only [List.getElem_toArray, List.getElem_cons_succ, List.getElem_cons_zero, Act.put, List.setIfInBounds_toArray, List.set_cons_zero, List.set_cons_succ]
            refine wpAnyH_ready (rs := [6]) (by kernel_rfl) (by simp) ?_
            refine AllReadyH.cons rfl (fun K hK => ?_) AllReadyH.nil
            go_simp
            refine (Compare_w _ _ (X.tdiv Y * Y + X.tmod Y) X 129 _ (by omega) ha.isN ((pX17.below c1').mono (by omega))).mono ?_
            rintro e wb ⟨rfl, bb'⟩
            rw [eB.out]
            have c2' : Below W17.heap.size W17 wb := below_and c1' (Nat.le_refl _) bb'
            try go_simp
            refine hK.out _ _ ?_ (fun hHeld => ?_)
            · first | assumption | exact hS.out _ (by assumption) | (refine ⟨?_, ?_, ?_, ?_⟩ <;> assumption) | (refine ⟨?_, ?_, ?_, ?_, ?_, ?_⟩ <;> assumption) | go_keep
            clear hK K
            try simp only [List.getElem_toArray, List.getElem_cons_succ, List.getElem_cons_zero, Act.put, List.setIfInBounds_toArray, List.set_cons_zero, List.set_cons_succ]
            refine wpAnyH_take (i := 7) (oi := _) (v := ?_) rfl (by kernel_rfl) (by kernel_rfl) (by kernel_rfl) (fun _ _ _ h => h) (Or.inl ⟨by rfl, ?_⟩) (by assumption) ?_
            rotate_left 1
            · (intro w hSw; (try dsimp only at hSw); go_simp; try with_reducible rfl)
            try simp only [List.getElem_toArray, List.getElem_cons_succ, List.getElem_cons_zero, Act.put, List.setIfInBounds_toArray, List.set_cons_zero, List.set_cons_succ]
            refine wpAnyH_take (i := 8) (oi := _) (v := ?_) rfl (by kernel_rfl) (by kernel_rfl) (by kernel_rfl) (fun _ _ _ h => h) (Or.inl ⟨by rfl, ?_⟩) (by assumption) ?_
            rotate_left 1
            · (intro w hSw; (try dsimp only at hSw); go_simp; try with_reducible rfl)
            try simp only [List.getElem_toArray, List.getElem_cons_succ, List.getElem_cons_zero, Act.put, List.setIfInBounds_toArray, List.set_cons_zero, List.set_cons_succ]
            refine wpAnyH_take (i := 9) (oi := _) (v := ?_) rfl (by kernel_rfl) (by kernel_rfl) (by kernel_rfl) (fun _ _ _ h => h) (Or.inl ⟨by rfl, ?_⟩) (by assumption) ?_
            rotate_left 1
            · (intro w hSw; (try dsimp only at hSw); go_simp; try with_reducible rfl)
            try simp only [List.getElem_toArray, List.getElem_cons_succ, List.getElem_cons_zero, Act.put, List.setIfInBounds_toArray, List.set_cons_zero, List.set_cons_succ]
            refine wpAnyH_take (i := 10) (oi := _) (v := ?_) rfl (by kernel_rfl) (by kernel_rfl) (by kernel_rfl) (fun _ _ _ h => h) (Or.inl ⟨by rfl, ?_⟩) (by assumption) ?_
            rotate_left 1
            · (intro w hSw; (try dsimp only at hSw); go_simp; try with_reducible rfl)
            try simp only [List.getElem_toArray, List.getElem_cons_succ, List.getElem_cons_zero, Act.put, List.setIfInBounds_toArray, List.set_cons_zero, List.set_cons_succ]
            refine wpAnyH_take (i := 11) (oi := _) (v := ?_) rfl (by kernel_rfl) (by kernel_rfl) (by kernel_rfl) (fun _ _ _ h => h) (Or.inl ⟨by rfl, ?_⟩) (by assumption) ?_
            rotate_left 1
            · (intro w hSw; (try dsimp only at hSw); go_simp; try with_reducible rfl)
            try simp only [List.getElem_toArray, List.getElem_cons_succ, List.getElem_cons_zero, Act.put, List.setIfInBounds_toArray, List.set_cons_zero, List.set_cons_succ]
            refine wpAnyH_ready (rs := [12]) (by kernel_rfl) (by simp) ?_
            refine AllReadyH.cons rfl (fun K hK => ?_) AllReadyH.nil
            go_simp
            refine (Compare_w _ _ ((X.tmod Y).natAbs : Int) (Y.natAbs : Int) 40 _ (by omega) (hab.below c2') (hof.below c2')).mono ?_
            rintro e wd ⟨rfl, bd'⟩
            rw [eS.out]
            have c3' : Below W17.heap.size W17 wd := below_and c2' (Nat.le_refl _) bd'
            try go_simp
            refine hK.out _ _ ?_ (fun hHeld => ?_)
            · first | assumption | exact hS.out _ (by assumption) | (refine ⟨?_, ?_, ?_, ?_⟩ <;> assumption) | (refine ⟨?_, ?_, ?_, ?_, ?_, ?_⟩ <;> assumption) | go_keep
            clear hK K
            try simp only [List.getElem_toArray, List.getElem_cons_succ, List.getElem_cons_zero, Act.put, List.setIfInBounds_toArray, List.set_cons_zero, List.set_cons_succ]
            refine wpAnyH_take (i := 13) (oi := _) (v := ?_) rfl (by kernel_rfl) (by kernel_rfl) (by kernel_rfl) (fun _ _ _ h => h) (Or.inl ⟨by rfl, ?_⟩) (by assumption) ?_
            rotate_left 1
            · (intro w hSw; (try dsimp only at hSw); go_simp; try with_reducible rfl)
            try simp only [List.getElem_toArray, List.getElem_cons_succ, List.getElem_cons_zero, Act.put, List.setIfInBounds_toArray, List.set_cons_zero, List.set_cons_succ]
            refine wpAnyH_take (i := 14) (oi := _) (v := ?_) rfl (by kernel_rfl) (by kernel_rfl) (by kernel_rfl) (fun _ _ _ h => h) (Or.inl ⟨by rfl, ?_⟩) (by assumption) ?_
            rotate_left 1
            · (intro w hSw; (try dsimp only at hSw); go_simp; try with_reducible rfl)
            try simp only [List.getElem_toArray, List.getElem_cons_succ, List.getElem_cons_zero, Act.put, List.setIfInBounds_toArray, List.set_cons_zero, List.set_cons_succ]
            refine wpAnyH_take (i := 15) (oi := _) (v := ?_) rfl (by kernel_rfl) (by kernel_rfl) (by kernel_rfl) (fun _ _ _ h => h) (Or.inl ⟨by rfl, ?_⟩) (by assumption) ?_
            rotate_left 1
            · (intro w hSw; (try dsimp only at hSw); go_simp; try with_reducible rfl)
            try simp only [List.getElem_toArray, List.getElem_cons_succ, List.getElem_cons_zero, Act.put, List.setIfInBounds_toArray, List.set_cons_zero, List.set_cons_succ]
            refine wpAnyH_take (i := 16) (oi := _) (v := ?_) rfl (by kernel_rfl) (by kernel_rfl) (by kernel_rfl) (fun _ _ _ h => h) (Or.inl ⟨by rfl, ?_⟩) (by assumption) ?_
            rotate_left 1
            · (intro w hSw; (try dsimp only at hSw); go_simp; try with_reducible rfl)
            try simp only [List.getElem_toArray, List.getElem_cons_succ, List.getElem_cons_zero, Act.put, List.setIfInBounds_toArray, List.set_cons_zero, List.set_cons_succ]
            refine wpAnyH_take (i := 17) (oi := _) (v := ?_) rfl (by kernel_rfl) (by kernel_rfl) (by kernel_rfl) (fun _ _ _ h => h) (Or.inl ⟨by rfl, ?_⟩) (by assumption) ?_
            rotate_left 1
            · (intro w hSw; (try dsimp only at hSw); go_simp; try with_reducible rfl)
            try simp only [List.getElem_toArray, List.getElem_cons_succ, List.getElem_cons_zero, Act.put, List.setIfInBounds_toArray, List.set_cons_zero, List.set_cons_succ]
            refine wpAnyH_take (i := 18) (oi := _) (v := ?_) rfl (by kernel_rfl) (by kernel_rfl) (by kernel_rfl) (fun _ _ _ h => h) (Or.inl ⟨by rfl, ?_⟩) (by assumption) ?_
            rotate_left 1
            · (intro w hSw; (try dsimp only at hSw); go_simp; try with_reducible rfl)
            try simp only [List.getElem_toArray, List.getElem_cons_succ, List.getElem_cons_zero, Act.put, List.setIfInBounds_toArray, List.set_cons_zero, List.set_cons_succ]
            refine wpAnyH_take (i := 19) (oi := _) (v := ?_) rfl (by kernel_rfl) (by kernel_rfl) (by kernel_rfl) (fun _ _ _ h => h) (Or.inl ⟨by rfl, ?_⟩) (by assumption) ?_
            rotate_left 1
            · (intro w hSw; (try dsimp only at hSw); go_simp; try with_reducible rfl)
            try simp only [List.getElem_toArray, List.getElem_cons_succ, List.getElem_cons_zero, Act.put, List.setIfInBounds_toArray, List.set_cons_zero, List.set_cons_succ]
            refine wpAnyH_take (i := 20) (oi := _) (v := ?_) rfl (by kernel_rfl) (by kernel_rfl) (by kernel_rfl) (fun _ _ _ h => h) (Or.inl ⟨by rfl, ?_⟩) (by assumption) ?_
            rotate_left 1
            · (intro w hSw; (try dsimp only at hSw); go_simp; try with_reducible rfl)
            try simp only [List.getElem_toArray, List.getElem_cons_succ, List.getElem_cons_zero, Act.put, List.setIfInBounds_toArray, List.set_cons_zero, List.set_cons_succ]
            refine wpAnyH_take (i := 21) (oi := _) (v := ?_) rfl (by kernel_rfl) (by kernel_rfl) (by kernel_rfl) (fun _ _ _ h => h) (Or.inl ⟨by rfl, ?_⟩) (by assumption) ?_
            rotate_left 1
            · (intro w hSw; (try dsimp only at hSw); go_simp; try with_reducible rfl)
            try simp only [List.getElem_toArray, List.getElem_cons_succ, List.getElem_cons_zero, Act.put, List.setIfInBounds_toArray, List.set_cons_zero, List.set_cons_succ]
            refine wpAnyH_take (i := 22) (oi := _) (v := ?_) rfl (by kernel_rfl) (by kernel_rfl) (by kernel_rfl) (fun _ _ _ h => h) (Or.inl ⟨by rfl, ?_⟩) (by assumption) ?_
            rotate_left 1
            · (intro w hSw; (try dsimp only at hSw); go_simp; try with_reducible rfl)
            try simp only [List.getElem_toArray, List.getElem_cons_succ, List.getElem_cons_zero, Act.put, List.setIfInBounds_toArray, List.set_cons_zero, List.set_cons_succ]
            refine wpAnyH_take (i := 23) (oi := _) (v := ?_) rfl (by kernel_rfl) (by kernel_rfl) (by kernel_rfl) (fun _ _ _ h => h) (Or.inl ⟨by rfl, ?_⟩) (by assumption) ?_
            rotate_left 1
            · (intro w hSw; (try dsimp only at hSw); go_simp; try with_reducible rfl)
            try simp only [List.getElem_toArray, List.getElem_cons_succ, List.getElem_cons_zero, Act.put, List.setIfInBounds_toArray, List.set_cons_zero, List.set_cons_succ]
            refine wpAnyH_ready (rs := [24]) (by kernel_rfl) (by simp) ?_
            refine AllReadyH.cons rfl (fun K hK => ?_) AllReadyH.nil
            go_simp
            refine (norm_w _ X 40 _ (by omega) (pX17.below c3')).mono ?_
            rintro e we ⟨sl, rfl, hF, _, be'⟩
            obtain ⟨ox, cx, rfl, _, _, _⟩ := hF.parts
            rw [hdx'.out]
            have c4' : Below W17.heap.size W17 we := below_and c3' (Nat.le_refl _) be'
            try go_simp
            refine hK.out _ _ ?_ (fun hHeld => ?_)
            · first | assumption | exact hS.out _ (by assumption) | (refine ⟨?_, ?_, ?_, ?_⟩ <;> assumption) | (refine ⟨?_, ?_, ?_, ?_, ?_, ?_⟩ <;> assumption) | go_keep
            clear hK K
            try simp only [List.getElem_toArray, List.getElem_cons_succ, List.getElem_cons_zero, Act.put, List.setIfInBounds_toArray, List.set_cons_zero, List.set_cons_succ]
            refine wpAnyH_take (i := 25) (oi := _) (v := ?_) rfl (by kernel_rfl) (by kernel_rfl) (by kernel_rfl) (fun _ _ _ h => h) (Or.inl ⟨by rfl, ?_⟩) (by assumption) ?_
            rotate_left 1
            · (intro w hSw; (try dsimp only at hSw); go_simp; try with_reducible rfl)
            try simp only [List.getElem_toArray, List.getElem_cons_succ, List.getElem_cons_zero, Act.put, List.setIfInBounds_toArray, List.set_cons_zero, List.set_cons_succ]
            refine wpAnyH_take (i := 26) (oi := _) (v := ?_) rfl (by kernel_rfl) (by kernel_rfl) (by kernel_rfl) (fun _ _ _ h => h) (Or.inl ⟨by rfl, ?_⟩) (by assumption) ?_
            rotate_left 1
            · (intro w hSw; (try dsimp only at hSw); go_simp; try with_reducible rfl)
            try simp only [List.getElem_toArray, List.getElem_cons_succ, List.getElem_cons_zero, Act.put, List.setIfInBounds_toArray, List.set_cons_zero, List.set_cons_succ]
            refine wpAnyH_take (i := 27) (oi := _) (v := ?_) rfl (by kernel_rfl) (by kernel_rfl) (by kernel_rfl) (fun _ _ _ h => h) (Or.inl ⟨by rfl, ?_⟩) (by assumption) ?_
            rotate_left 1
            · (intro w hSw; (try dsimp only at hSw); go_simp; try with_reducible rfl)
            try simp only [List.getElem_toArray, List.getElem_cons_succ, List.getElem_cons_zero, Act.put, List.setIfInBounds_toArray, List.set_cons_zero, List.set_cons_succ]
            refine wpAnyH_take (i := 28) (oi := _) (v := ?_) rfl (by kernel_rfl) (by kernel_rfl) (by kernel_rfl) (fun _ _ _ h => h) (Or.inl ⟨by rfl, ?_⟩) (by assumption) ?_
            rotate_left 1
            · (intro w hSw; (try dsimp only at hSw); go_simp; try with_reducible rfl)
            try simp only [List.getElem_toArray, List.getElem_cons_succ, List.getElem_cons_zero, Act.put, List.setIfInBounds_toArray, List.set_cons_zero, List.set_cons_succ]
            refine wpAnyH_take (i := 29) (oi := _) (v := ?_) rfl (by kernel_rfl) (by kernel_rfl) (by kernel_rfl) (fun _ _ _ h => h) (Or.inl ⟨by rfl, ?_⟩) (by assumption) ?_
            rotate_left 1
            · (intro w hSw; (try dsimp only at hSw); go_simp; try with_reducible rfl)
            try simp only [List.getElem_toArray, List.getElem_cons_succ, List.getElem_cons_zero, Act.put, List.setIfInBounds_toArray, List.set_cons_zero, List.set_cons_succ]
            refine wpAnyH_done (by kernel_rfl) ?_ _
            go_wp2_with fail
            go_ret
            exact ⟨rfl, below_and' B17 gw17 c4'⟩
end Go.Proofs.Ytccogdlmlegmbaa.bigRules
