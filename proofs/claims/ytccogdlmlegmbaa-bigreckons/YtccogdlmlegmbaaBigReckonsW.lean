/- BigReckons, walked. -/
import Derived.Test.YtccogdlmlegmbaaBigOrd2
import Derived.Test.YtccogdlmlegmbaaBigRDiv
import Derived.Test.YtccogdlmlegmbaaBigSame
namespace Go.Proofs.Ytccogdlmlegmbaa.bigReckons
open Go.ChangeShapes Go.WideShapes Go.ChangeAt Go.ChangeMaps Go.RowKit
set_option linter.unusedSimpArgs false
set_option linter.unusedVariables false
theorem shut {p : Prop} (h : p) : Shut p := h
theorem IsC.named {v : Value} {Z : Int} {K : Nat} {w : World} (h : IsC v Z K w) : ∃ b o n c, v = .agg #[.bool b, .slice o n c] ∧ IsC (.agg #[.bool b, .slice o n c]) Z K w := by
  obtain ⟨b, o, n, c, rfl⟩ := h.shape
  exact ⟨b, o, n, c, rfl, h⟩
set_option maxRecDepth 40000 in
set_option maxHeartbeats 20000000 in
theorem walk {H : Type} (enc : TypeId × Value → H) (base : Nat) (w : World) (v0 v1 : Value) (d0 d1 : DataW H) (p0 p1 : List MemPlace)
    (o0 : Value.okWide Try.prog w .any base 34 v0) (h0 : DataW.Trod enc Try.prog w 0 (fun _ => true) true 34 v0 d0 p0)
    (o1 : Value.okWide Try.prog w .any base 34 v1) (h1 : DataW.Trod enc Try.prog w 0 (fun _ => true) true 34 v1 d1 p1) :
    Calls Try.prog 4 #[v0, v1] w fun e w' => e = .returned (.bool true) ∧ Below w.heap.size w w' := by
  obtain ⟨na, oa, la, ca, rfl, hLa, hca, hma, hla⟩ := open_num o0 h0
  obtain ⟨nb, ob, lb, cb, rfl, hLb, hcb, hmb, hlb⟩ := open_num o1 h1
  unfold maxLen at hla hlb
  clear o0 h0 o1 h1
  obtain ⟨kA, kB, hB0, hz0⟩ := boxes2 w (.bool na) (.slice oa la.length ca) (.bool nb) (.slice ob lb.length cb) 34 34
  go_enter Try.func4, Try.ntmps4
  simp only [List.append_eq, List.cons_append, List.nil_append]
  go_wp2_with fail
  generalize ((w.alloc (.cells #[.bool na, .slice oa la.length ca] 34)).alloc (.cells #[.bool nb, .slice ob lb.length cb] 34)) = W0 at *
  refine (awake_w _).mono ?_
  rintro e w1 ⟨rfl, b1⟩
  have kA1 := kA.below b1 (by omega)
  have kB1 := kB.below b1 (by omega)
  have hB1 := below_and hB0 (Nat.le_refl _) b1
  have hs1 := b1.size
  obtain ⟨f1, f2, f3, f4⟩ := id kA1
  obtain ⟨f5, f6, f7, f8⟩ := id kB1
  by_cases ha40 : 140 < la.length
  · have hz1 : decide ((140 : Int) < (la.length : Int)) = true := by simp; omega
    go_wp2
    go_ret
    exact ⟨rfl, hB1⟩
  have hz1 : decide ((140 : Int) < (la.length : Int)) = false := by simp; omega
  by_cases hb40 : 140 < lb.length
  · have hz2 : decide ((140 : Int) < (lb.length : Int)) = true := by simp; omega
    go_wp2
    go_ret
    exact ⟨rfl, hB1⟩
  have hz2 : decide ((140 : Int) < (lb.length : Int)) = false := by simp; omega
  have iX0 := (IsN.of_open (neg := na) (K := 140) hLa hca hma (by omega)).below hB1
  have iY0 := (IsN.of_open (neg := nb) (K := 140) hLb hcb hmb (by omega)).below hB1
  obtain ⟨X, hX⟩ : ∃ X, sv na (gval 4294967296 la) = X := ⟨_, rfl⟩
  obtain ⟨Y, hY⟩ : ∃ Y, sv nb (gval 4294967296 lb) = Y := ⟨_, rfl⟩
  rw [hX] at iX0
  rw [hY] at iY0
  clear hX hY
  have g0 : w.heap.size + 1 < w1.heap.size := by omega
  clear b1 hs1 hz0 hB0 kA kB hLa hLb hca hcb hma hmb hla hlb
  go_wp2
  obtain ⟨ga, hga⟩ : ∃ ga, w.heap.size = ga := ⟨_, rfl⟩
  have Hga := hid hga
  rw [hga] at kA1 kB1 f1 f2 f3 f4 f5 f6 f7 f8 g0 ⊢
  clear hga
  go_cut [5, 6] from 33 to 36 (fun p5 p6 wx => ∃ g5 g6, p5 = .pointer (some ⟨g5, 0, none⟩) ∧ p6 = .pointer (some ⟨g6, 0, none⟩) ∧ Box g5 (.bool na) (.slice oa la.length ca) wx ∧ Box g6 (.bool nb) (.slice ob lb.length cb) wx ∧ Below w1.heap.size w1 wx)
  case first =>
    have hS : Hid (∀ w', Below w1.heap.size w1 w' → w'.cell? ⟨ga, 0, none⟩ = some (.bool na) ∧ w'.cell? ⟨ga, 1, none⟩ = some (.slice oa la.length ca) ∧ w'.cell? ⟨ga + 1, 0, none⟩ = some (.bool nb) ∧ w'.cell? ⟨ga + 1, 1, none⟩ = some (.slice ob lb.length cb)) := fun w' hb =>
      ⟨(hb.cell (show ga < _ by omega)).trans f1, (hb.cell (show ga < _ by omega)).trans f2, (hb.cell (show ga + 1 < _ by omega)).trans f5, (hb.cell (show ga + 1 < _ by omega)).trans f6⟩
    refine wp_region_held_drew (S := fun w' => w'.cell? ⟨ga, 0, none⟩ = some (.bool na) ∧ w'.cell? ⟨ga, 1, none⟩ = some (.slice oa la.length ca) ∧ w'.cell? ⟨ga + 1, 0, none⟩ = some (.bool nb) ∧ w'.cell? ⟨ga + 1, 1, none⟩ = some (.slice ob lb.length cb)) (by kernel_rfl) (by go_keep) (fun hHeld => ?_)
    refine wpAnyH_take (i := 0) (oi := _) (v := ?_) rfl (by kernel_rfl) (by kernel_rfl) (by kernel_rfl) (fun _ _ _ h => h) (Or.inl ⟨by rfl, ?_⟩) (by assumption) ?_
    rotate_left 1
    · (intro w hSw; (try dsimp only at hSw); go_simp; try with_reducible rfl)
    try simp (maxSteps := 10000000) only [List.getElem_toArray, List.getElem_cons_succ, List.getElem_cons_zero, Act.put, List.setIfInBounds_toArray, List.set_cons_zero, List.set_cons_succ]
    refine wpAnyH_take (i := 2) (oi := _) (v := ?_) rfl (by kernel_rfl) (by kernel_rfl) (by kernel_rfl) (fun _ _ _ h => h) (Or.inl ⟨by rfl, ?_⟩) (by assumption) ?_
    rotate_left 1
    · (intro w hSw; (try dsimp only at hSw); go_simp; try with_reducible rfl)
    try simp (maxSteps := 10000000) only [List.getElem_toArray, List.getElem_cons_succ, List.getElem_cons_zero, Act.put, List.setIfInBounds_toArray, List.set_cons_zero, List.set_cons_succ]
    refine wpAnyH_at (m' := 6) (listed' := #[true, false, true, false, false, false, false, false]) (by kernel_rfl) (by kernel_rfl) ?_
    refine wpAnyH_name fun a0 ha0 => ?_
    refine wpAnyH_inv2 (A := fun s => (((a0.put (some 34) s.x1).put (some 36) s.x3).put (some 5) s.x4).put (some 6) s.x5) (R := R2 w1.heap.size w1 (.agg #[.bool na, .slice oa la.length ca]) (.agg #[.bool nb, .slice ob lb.length cb]) (.bool false) (.slice none 0 0)) ?_ (fun s w h => h.o3) ?_ ?_ ?_ ?_ ?_ _ _ undef undef undef undef ?_ ?_
    · kernel_rfl
    · intro s w' hR
      refine wpOp_step rfl (fun K' hK => ?_)
      have hK' := shut hK
      clear hK
      subst ha0
      simp only [Act.put, List.setIfInBounds_toArray, List.set_cons_zero, List.set_cons_succ]
      go_simp
      refine (num_w _ _ _ _ _).mono ?_
      rintro e w2 ⟨rfl, b2⟩
      try go_simp
      refine hK'.out _ _ ⟨_, ?_, hR.c1 b2, hS.out _ (hR.c1 b2).bel⟩
      rfl
    · intro s w' hR he
      refine wpOp_step rfl (fun K' hK => ?_)
      have hK' := shut hK
      clear hK
      subst ha0
      simp only [Act.put, List.setIfInBounds_toArray, List.set_cons_zero, List.set_cons_succ]
      go_simp
      refine (num_w _ _ _ _ _).mono ?_
      rintro e w2 ⟨rfl, b2⟩
      try go_simp
      refine hK'.out _ _ ⟨_, ?_, hR.c3 he b2, hS.out _ (hR.c3 he b2).bel⟩
      rfl
    · intro s w' hR
      refine wpOp_step rfl (fun K' hK => ?_)
      have hK' := shut hK
      clear hK
      subst ha0
      simp only [Act.put, List.setIfInBounds_toArray, List.set_cons_zero, List.set_cons_succ]
      go_simp
      refine hK'.out _ _ ⟨_, ?_, hR.n4 25, hS.out _ (hR.n4 25).bel⟩
      rfl
    · intro s w' hR
      refine wpOp_step rfl (fun K' hK => ?_)
      have hK' := shut hK
      clear hK
      subst ha0
      simp only [Act.put, List.setIfInBounds_toArray, List.set_cons_zero, List.set_cons_succ]
      go_simp
      refine hK'.out _ _ ⟨_, ?_, hR.n5 25, hS.out _ (hR.n5 25).bel⟩
      rfl
    · intro x1 x3 x4 x5 w' hR
      obtain rfl := hR.h1 rfl
      obtain rfl := hR.h3 rfl
      obtain ⟨g5, rfl, n5, z5, k5⟩ := hR.h4 rfl
      obtain ⟨g6, rfl, n6, z6, k6⟩ := hR.h5 rfl
      have e56 : g5 ≠ g6 := fun e => hR.h45 rfl rfl (by rw [e])
      have hb0 := hR.bel
      clear hR
      obtain ⟨u1, u2, u3, u4⟩ := id k5
      subst ha0
      try simp only [Act.put, List.setIfInBounds_toArray, List.set_cons_zero, List.set_cons_succ]
      refine wpAnyH_ready (rs := [6]) (by kernel_rfl) (by simp) ?_
      refine AllReadyH.cons rfl (fun K hK => ?_) AllReadyH.nil
      go_simp
      have hb7 := (hb0.setCell (p := ⟨g5, 0, none⟩) n5 (.bool na)).setCell (p := ⟨g5, 1, none⟩) n5 (.slice oa la.length ca)
      have k5a := k5.put (u' := .bool na) (v' := .slice oa la.length ca)
      have k6a := k6.far (k := g5) (x := .bool na) (y := .slice oa la.length ca) e56.symm
      clear u1 u2 u3 u4 k5 k6 hb0
      obtain ⟨u1, u2, u3, u4⟩ := id k6a
      generalize ((w'.setCell ⟨g5, 0, none⟩ (.bool na)).setCell ⟨g5, 1, none⟩ (.slice oa la.length ca)) = wA at *
      try go_simp
      refine hK.out _ _ ?_ (fun hHeld => ?_)
      · first | exact hS.out _ (by assumption) | assumption | (refine ⟨?_, ?_, ?_, ?_⟩ <;> assumption) | go_keep
      clear hK K
      try simp (maxSteps := 10000000) only [List.getElem_toArray, List.getElem_cons_succ, List.getElem_cons_zero, Act.put, List.setIfInBounds_toArray, List.set_cons_zero, List.set_cons_succ]
      refine wpAnyH_ready (rs := [7]) (by kernel_rfl) (by simp) ?_
      refine AllReadyH.cons rfl (fun K hK => ?_) AllReadyH.nil
      go_simp
      have hb8 := (hb7.setCell (p := ⟨g6, 0, none⟩) n6 (.bool nb)).setCell (p := ⟨g6, 1, none⟩) n6 (.slice ob lb.length cb)
      have k5b := k5a.far (k := g6) (x := .bool nb) (y := .slice ob lb.length cb) e56
      have k6b := k6a.put (u' := .bool nb) (v' := .slice ob lb.length cb)
      clear u1 u2 u3 u4 k5a k6a hb7
      generalize ((wA.setCell ⟨g6, 0, none⟩ (.bool nb)).setCell ⟨g6, 1, none⟩ (.slice ob lb.length cb)) = wB at *
      try go_simp
      refine hK.out _ _ ?_ (fun hHeld => ?_)
      · first | exact hS.out _ (by assumption) | assumption | (refine ⟨?_, ?_, ?_, ?_⟩ <;> assumption) | go_keep
      clear hK K
      try simp (maxSteps := 10000000) only [List.getElem_toArray, List.getElem_cons_succ, List.getElem_cons_zero, Act.put, List.setIfInBounds_toArray, List.set_cons_zero, List.set_cons_succ]
      refine wpAnyH_done (by kernel_rfl) ?_ _
      go_wp2_with fail
      go_meet
      exact ⟨g5, g6, rfl, rfl, k5b, k6b, hb8⟩
    · subst ha0; rfl
    · exact ⟨(Below.refl _ _).drew, Nat.le_refl _, nofun, nofun, nofun, nofun, nofun, nofun⟩
  case rest =>
    obtain ⟨g5, g6, rfl, rfl, kX, kY, bw⟩ := hcut
    obtain ⟨V, rfl⟩ : ∃ x, x = wc := ⟨_, rfl⟩
    have BV := below_and hB1 (by omega) bw
    have iX := iX0.below bw
    have iY := iY0.below bw
    have kA := kA1.below bw (by omega)
    have kB := kB1.below bw (by omega)
    clear iX0 iY0 f1 f2 f3 f4 f5 f6 f7 f8 hB1 kA1 kB1 bw g0 ha40 hb40 hz1 hz2
    have lA := kA.lt
    have lB := kB.lt
    have lX := kX.lt
    have lY := kY.lt
    obtain ⟨MO, hMO⟩ : ∃ MO, mulOk X Y = MO := ⟨_, rfl⟩
    obtain ⟨MZ, hMZ⟩ : ∃ MZ, (if mulOk X Y then X * Y else 0) = MZ := ⟨_, rfl⟩
    obtain ⟨DO, hDO⟩ : ∃ DO, decide (Y ≠ 0) = DO := ⟨_, rfl⟩
    obtain ⟨ZQ, hZQ⟩ : ∃ ZQ, X.tdiv Y = ZQ := ⟨_, rfl⟩
    obtain ⟨ZR, hZR⟩ : ∃ ZR, (if Y = 0 then 0 else X.tmod Y) = ZR := ⟨_, rfl⟩
    obtain ⟨SN, hSN⟩ : ∃ SN, smlN X = SN := ⟨_, rfl⟩
    obtain ⟨SB, hSB⟩ : ∃ SB, smlB X = SB := ⟨_, rfl⟩
    obtain ⟨CZ, hCZ⟩ : ∃ CZ, cmpZ X Y = CZ := ⟨_, rfl⟩
    have cM := fun (u : World) (va vb : Value) (ha : IsN va X 140 u) (hb : IsN vb Y 140 u) => mul_w va vb X Y 140 u (by decide) ha hb
    have cN := fun (u : World) (va vb : Value) (ha : IsN va X 140 u) (hb : IsN vb Y 140 u) => rmul_w va vb X Y 140 u (by decide) ha hb
    have cD := fun (u : World) (va vb : Value) (ha : IsN va X 140 u) (hb : IsN vb Y 140 u) => div_w va vb X Y 140 u (by decide) (by decide) ha hb
    have cE := fun (u : World) (va vb : Value) (ha : IsN va X 140 u) (hb : IsN vb Y 140 u) => rdiv_w va vb X Y 140 u (by decide) ha hb
    rw [hMZ, hMO] at cM cN
    rw [hDO, hZQ, hZR] at cD cE
    clear hMO hMZ hDO hZQ hZR
    obtain ⟨x1, x2, x3, x4⟩ := id kX
    obtain ⟨y1, y2, y3, y4⟩ := id kY
    go_wp2_with fail
    refine (cM _ _ _ iX iY).mono ?_
    rintro e w6 ⟨v6, rfl, h6, b6⟩
    obtain ⟨d6, o6, n6, c6, rfl, i6⟩ := IsC.named h6
    clear h6
    obtain ⟨kM0, hB6, hz6⟩ := newbox w6 (.bool d6) (.slice o6 n6 c6) 25
    have bV6 := below_and b6 (Nat.le_refl _) hB6
    have iM0 := i6.below hB6
    clear x1 x2 x3 x4 y1 y2 y3 y4 i6
    obtain ⟨a1, a2, a3, a4⟩ := kA.below bV6 lA
    obtain ⟨b1, b2, b3, b4⟩ := kB.below bV6 lB
    go_wp2_with fail
    generalize w6.alloc (.cells #[.bool d6, .slice o6 n6 c6] 25) = W6 at *
    refine (cN _ _ _ (iX.below bV6) (iY.below bV6)).mono ?_
    rintro e w7 ⟨v7, rfl, h7, b7⟩
    obtain ⟨d7, o7, n7, c7, rfl, i7⟩ := IsC.named h7
    clear h7
    obtain ⟨kN0, hB7, hz7⟩ := newbox w7 (.bool d7) (.slice o7 n7 c7) 34
    have b67 := below_and b7 (Nat.le_refl _) hB7
    have bV7 := below_and bV6 (Nat.le_refl _) b67
    have iN0 := i7.below hB7
    have iM1 := iM0.below b67
    have kM1 := kM0.below b67 kM0.lt
    clear a1 a2 a3 a4 b1 b2 b3 b4 i7 iM0 kM0 b67 hB7 b7 hB6 b6 bV6
    obtain ⟨x1, x2, x3, x4⟩ := kX.below bV7 lX
    obtain ⟨y1, y2, y3, y4⟩ := kY.below bV7 lY
    go_wp2_with fail
    generalize w7.alloc (.cells #[.bool d7, .slice o7 n7 c7] 34) = W7 at *
    refine (cD _ _ _ (iX.below bV7) (iY.below bV7)).mono ?_
    rintro e w8 ⟨vq8, vr8, rfl, hq8, hr8, b8⟩
    obtain ⟨d8, o8, n8, c8, rfl, iq8⟩ := IsC.named hq8
    obtain ⟨e8, p8, m8, t8, rfl, ir8⟩ := IsC.named hr8
    clear hq8 hr8
    obtain ⟨kQ0, kR0, hB8, hz8⟩ := boxes2 w8 (.bool d8) (.slice o8 n8 c8) (.bool e8) (.slice p8 m8 t8) 25 25
    have b78 := below_and b8 (Nat.le_refl _) hB8
    have bV8 := below_and bV7 (Nat.le_refl _) b78
    have iQ0 := iq8.below hB8
    have iR0 := ir8.below hB8
    have iN1 := iN0.below b78
    have iM2 := iM1.below b78
    have kN1 := kN0.below b78 kN0.lt
    have kM2 := kM1.below b78 kM1.lt
    clear x1 x2 x3 x4 y1 y2 y3 y4 iq8 ir8 iN0 iM1 kN0 kM1 b78 hB8 b8 bV7
    obtain ⟨a1, a2, a3, a4⟩ := kA.below bV8 lA
    obtain ⟨b1, b2, b3, b4⟩ := kB.below bV8 lB
    go_wp2_with fail
    generalize ((w8.alloc (.cells #[.bool d8, .slice o8 n8 c8] 25)).alloc (.cells #[.bool e8, .slice p8 m8 t8] 25)) = W8 at *
    refine (cE _ _ _ (iX.below bV8) (iY.below bV8)).mono ?_
    rintro e w9 ⟨vq9, vr9, rfl, hq9, hr9, b9⟩
    obtain ⟨d9, o9, n9, c9, rfl, iq9⟩ := IsC.named hq9
    obtain ⟨e9, p9, m9, t9, rfl, ir9⟩ := IsC.named hr9
    clear hq9 hr9
    obtain ⟨kU, kS, hB9, hz9⟩ := boxes2 w9 (.bool d9) (.slice o9 n9 c9) (.bool e9) (.slice p9 m9 t9) 34 34
    have b89 := below_and b9 (Nat.le_refl _) hB9
    have bV9 := below_and bV8 (Nat.le_refl _) b89
    have iU := iq9.below hB9
    have iS := ir9.below hB9
    have iQ := iQ0.below b89
    have iR := iR0.below b89
    have iN := iN1.below b89
    have iM := iM2.below b89
    have kQ := kQ0.below b89 kQ0.lt
    have kR := kR0.below b89 kR0.lt
    have kN := kN1.below b89 kN1.lt
    have kM := kM2.below b89 kM2.lt
    have kA' := kA.below bV9 lA
    have kB' := kB.below bV9 lB
    have kX' := kX.below bV9 lX
    have kY' := kY.below bV9 lY
    have jX := iX.below bV9
    have jY := iY.below bV9
    have BW := below_and BV (Nat.le_refl _) bV9
    clear a1 a2 a3 a4 b1 b2 b3 b4 iq9 ir9 iQ0 iR0 iN1 iM2 kQ0 kR0 kN1 kM2 b89 hB9 b9 bV8 bV9 kA kB kX kY iX iY lA lB lX lY BV hz6 hz7 hz8 hz9 cM cN cD cE
    obtain ⟨x1, x2, x3, x4⟩ := id kX'
    go_wp2_with fail
    generalize ((w9.alloc (.cells #[.bool d9, .slice o9 n9 c9] 34)).alloc (.cells #[.bool e9, .slice p9 m9 t9] 34)) = W9 at *
    have lA := kA'.lt
    have lB := kB'.lt
    have lX := kX'.lt
    have lY := kY'.lt
    have lM := kM.lt
    have lN := kN.lt
    have lQ := kQ.lt
    have lR := kR.lt
    have lU := kU.lt
    have lS := kS.lt
    have hmm : (MO == MO) = true := by simp
    have hdd : (DO == DO) = true := by simp
    have hcc : (CZ == CZ) = true := by simp
    have hnn : (SN == SN) = true := by simp
    have hbb : (SB == SB) = true := by simp
    have hS1 := small_w _ X 140 W9 (by decide) jX
    rw [hSN, hSB] at hS1
    refine hS1.mono ?_
    clear hS1
    rintro e u1 ⟨rfl, c1⟩
    clear x1 x2 x3 x4
    obtain ⟨a1, a2, a3, a4⟩ := kA'.below c1 lA
    go_wp2_with fail
    have hS2 := rsmall_w _ X 140 u1 (by decide) (jX.below c1)
    rw [hSN, hSB] at hS2
    refine hS2.mono ?_
    clear hS2 hSN hSB
    rintro e u2 ⟨rfl, d2⟩
    have c2 := below_and c1 (Nat.le_refl _) d2
    clear a1 a2 a3 a4
    have zA := kA'.below c2 lA
    have zB := kB'.below c2 lB
    have zX := kX'.below c2 lX
    have zY := kY'.below c2 lY
    have zM := kM.below c2 lM
    have zN := kN.below c2 lN
    have zQ := kQ.below c2 lQ
    have zR := kR.below c2 lR
    have zU := kU.below c2 lU
    have zS := kS.below c2 lS
    have mX := jX.below c2
    have mY := jY.below c2
    have mM := iM.below c2
    have mN := iN.below c2
    have mQ := iQ.below c2
    have mR := iR.below c2
    have mU := iU.below c2
    have mS := iS.below c2
    have BU := below_and BW (Nat.le_refl _) c2
    clear kA' kB' kX' kY' kM kN kQ kR kU kS jX jY iM iN iQ iR iU iS BW c1 c2 d2 lA lB lX lY lM lN lQ lR lU lS
    generalize w6.heap.size = gm at *
    generalize w7.heap.size = gn at *
    generalize w8.heap.size = gq at *
    generalize w9.heap.size = gu at *
    go_wp2_with fail
    have hDr : Below u2.heap.size u2 u2.drew := (Below.refl _ _).drew
    have hS : Hid (∀ w', Below u2.heap.size u2 w' → w'.cell? ⟨ga, 0, none⟩ = some (.bool na) ∧ w'.cell? ⟨ga, 1, none⟩ = some (.slice oa la.length ca) ∧ w'.cell? ⟨ga + 1, 0, none⟩ = some (.bool nb) ∧ w'.cell? ⟨ga + 1, 1, none⟩ = some (.slice ob lb.length cb) ∧ w'.cell? ⟨g5, 0, none⟩ = some (.bool na) ∧ w'.cell? ⟨g5, 1, none⟩ = some (.slice oa la.length ca) ∧ w'.cell? ⟨g6, 0, none⟩ = some (.bool nb) ∧ w'.cell? ⟨g6, 1, none⟩ = some (.slice ob lb.length cb) ∧ w'.cell? ⟨gm, 0, none⟩ = some (.bool d6) ∧ w'.cell? ⟨gm, 1, none⟩ = some (.slice o6 n6 c6) ∧ w'.cell? ⟨gn, 0, none⟩ = some (.bool d7) ∧ w'.cell? ⟨gn, 1, none⟩ = some (.slice o7 n7 c7) ∧ w'.cell? ⟨gq, 0, none⟩ = some (.bool d8) ∧ w'.cell? ⟨gq, 1, none⟩ = some (.slice o8 n8 c8) ∧ w'.cell? ⟨gq + 1, 0, none⟩ = some (.bool e8) ∧ w'.cell? ⟨gq + 1, 1, none⟩ = some (.slice p8 m8 t8) ∧ w'.cell? ⟨gu, 0, none⟩ = some (.bool d9) ∧ w'.cell? ⟨gu, 1, none⟩ = some (.slice o9 n9 c9) ∧ w'.cell? ⟨gu + 1, 0, none⟩ = some (.bool e9) ∧ w'.cell? ⟨gu + 1, 1, none⟩ = some (.slice p9 m9 t9)) := hid fun w' h => ⟨(zA.below h zA.lt).1, (zA.below h zA.lt).2.1, (zB.below h zB.lt).1, (zB.below h zB.lt).2.1, (zX.below h zX.lt).1, (zX.below h zX.lt).2.1, (zY.below h zY.lt).1, (zY.below h zY.lt).2.1, (zM.below h zM.lt).1, (zM.below h zM.lt).2.1, (zN.below h zN.lt).1, (zN.below h zN.lt).2.1, (zQ.below h zQ.lt).1, (zQ.below h zQ.lt).2.1, (zR.below h zR.lt).1, (zR.below h zR.lt).2.1, (zU.below h zU.lt).1, (zU.below h zU.lt).2.1, (zS.below h zS.lt).1, (zS.below h zS.lt).2.1⟩
    refine wp_region_held_drew (S := fun w' => w'.cell? ⟨ga, 0, none⟩ = some (.bool na) ∧ w'.cell? ⟨ga, 1, none⟩ = some (.slice oa la.length ca) ∧ w'.cell? ⟨ga + 1, 0, none⟩ = some (.bool nb) ∧ w'.cell? ⟨ga + 1, 1, none⟩ = some (.slice ob lb.length cb) ∧ w'.cell? ⟨g5, 0, none⟩ = some (.bool na) ∧ w'.cell? ⟨g5, 1, none⟩ = some (.slice oa la.length ca) ∧ w'.cell? ⟨g6, 0, none⟩ = some (.bool nb) ∧ w'.cell? ⟨g6, 1, none⟩ = some (.slice ob lb.length cb) ∧ w'.cell? ⟨gm, 0, none⟩ = some (.bool d6) ∧ w'.cell? ⟨gm, 1, none⟩ = some (.slice o6 n6 c6) ∧ w'.cell? ⟨gn, 0, none⟩ = some (.bool d7) ∧ w'.cell? ⟨gn, 1, none⟩ = some (.slice o7 n7 c7) ∧ w'.cell? ⟨gq, 0, none⟩ = some (.bool d8) ∧ w'.cell? ⟨gq, 1, none⟩ = some (.slice o8 n8 c8) ∧ w'.cell? ⟨gq + 1, 0, none⟩ = some (.bool e8) ∧ w'.cell? ⟨gq + 1, 1, none⟩ = some (.slice p8 m8 t8) ∧ w'.cell? ⟨gu, 0, none⟩ = some (.bool d9) ∧ w'.cell? ⟨gu, 1, none⟩ = some (.slice o9 n9 c9) ∧ w'.cell? ⟨gu + 1, 0, none⟩ = some (.bool e9) ∧ w'.cell? ⟨gu + 1, 1, none⟩ = some (.slice p9 m9 t9)) (by kernel_rfl) (hS.out _ hDr) (fun hHeld => ?_)
    refine wpAnyH_take (i := 0) (oi := _) (v := ?_) rfl (by kernel_rfl) (by kernel_rfl) (by kernel_rfl) (fun _ _ _ h => h) (Or.inl ⟨by rfl, ?_⟩) (by assumption) ?_
    rotate_left 1
    · (intro w hSw; (try dsimp only at hSw); go_simp; try with_reducible rfl)
    try simp (maxSteps := 10000000) only [List.getElem_toArray, List.getElem_cons_succ, List.getElem_cons_zero, Act.put, List.setIfInBounds_toArray, List.set_cons_zero, List.set_cons_succ]
    refine wpAnyH_take (i := 1) (oi := _) (v := ?_) rfl (by kernel_rfl) (by kernel_rfl) (by kernel_rfl) (fun _ _ _ h => h) (Or.inl ⟨by rfl, ?_⟩) (by assumption) ?_
    rotate_left 1
    · (intro w hSw; (try dsimp only at hSw); go_simp; try with_reducible rfl)
    try simp (maxSteps := 10000000) only [List.getElem_toArray, List.getElem_cons_succ, List.getElem_cons_zero, Act.put, List.setIfInBounds_toArray, List.set_cons_zero, List.set_cons_succ]
    refine wpAnyH_take (i := 3) (oi := _) (v := ?_) rfl (by kernel_rfl) (by kernel_rfl) (by kernel_rfl) (fun _ _ _ h => h) (Or.inl ⟨by rfl, ?_⟩) (by assumption) ?_
    rotate_left 1
    · (intro w hSw; (try dsimp only at hSw); go_simp; try with_reducible rfl)
    try simp (maxSteps := 10000000) only [List.getElem_toArray, List.getElem_cons_succ, List.getElem_cons_zero, Act.put, List.setIfInBounds_toArray, List.set_cons_zero, List.set_cons_succ]
    refine wpAnyH_take (i := 4) (oi := _) (v := ?_) rfl (by kernel_rfl) (by kernel_rfl) (by kernel_rfl) (fun _ _ _ h => h) (Or.inl ⟨by rfl, ?_⟩) (by assumption) ?_
    rotate_left 1
    · (intro w hSw; (try dsimp only at hSw); go_simp; try with_reducible rfl)
    try simp (maxSteps := 10000000) only [List.getElem_toArray, List.getElem_cons_succ, List.getElem_cons_zero, Act.put, List.setIfInBounds_toArray, List.set_cons_zero, List.set_cons_succ]
    refine wpAnyH_ready (rs := [2]) (by kernel_rfl) (by simp) ?_
    refine AllReadyH.cons rfl (fun K hK => ?_) AllReadyH.nil
    go_simp
    refine (add_w _ _ X Y 140 _ (by decide) (mX.below hDr) (mY.below hDr)).mono ?_
    rintro e t1 ⟨r1, rfl, j1, l1'⟩
    have f1 : Below u2.heap.size u2 t1 := below_of_drew l1'
    try go_simp
    refine hK.out _ _ ?_ (fun hHeld => ?_)
    · first | exact hS.out _ (by assumption) | assumption | (refine ⟨?_, ?_, ?_, ?_⟩ <;> assumption) | go_keep
    clear hK K
    try simp (maxSteps := 10000000) only [List.getElem_toArray, List.getElem_cons_succ, List.getElem_cons_zero, Act.put, List.setIfInBounds_toArray, List.set_cons_zero, List.set_cons_succ]
    refine wpAnyH_ready (rs := [5]) (by kernel_rfl) (by simp) ?_
    refine AllReadyH.cons rfl (fun K hK => ?_) AllReadyH.nil
    go_simp
    refine (radd_w _ _ X Y 140 _ (by decide) (mX.below f1) (mY.below f1)).mono ?_
    rintro e t2 ⟨r2, rfl, j2, l2'⟩
    have f2 : Below u2.heap.size u2 t2 := below_and f1 (Nat.le_refl _) l2'
    try go_simp
    refine hK.out _ _ ?_ (fun hHeld => ?_)
    · first | exact hS.out _ (by assumption) | assumption | (refine ⟨?_, ?_, ?_, ?_⟩ <;> assumption) | go_keep
    clear hK K
    try simp (maxSteps := 10000000) only [List.getElem_toArray, List.getElem_cons_succ, List.getElem_cons_zero, Act.put, List.setIfInBounds_toArray, List.set_cons_zero, List.set_cons_succ]
    refine wpAnyH_ready (rs := [6]) (by kernel_rfl) (by simp) ?_
    refine AllReadyH.cons rfl (fun K hK => ?_) AllReadyH.nil
    go_simp
    refine (same_w _ _ (X + Y) 141 _ (by decide) (j1.below l2') j2).mono ?_
    rintro e t3 ⟨rfl, l3'⟩
    have f3 : Below u2.heap.size u2 t3 := below_and f2 (Nat.le_refl _) l3'
    clear j1 j2 l1' l2' l3' f1 f2
    try go_simp
    refine hK.out _ _ ?_ (fun hHeld => ?_)
    · first | exact hS.out _ (by assumption) | assumption | (refine ⟨?_, ?_, ?_, ?_⟩ <;> assumption) | go_keep
    clear hK K
    try simp (maxSteps := 10000000) only [List.getElem_toArray, List.getElem_cons_succ, List.getElem_cons_zero, Act.put, List.setIfInBounds_toArray, List.set_cons_zero, List.set_cons_succ]
    refine wpAnyH_take (i := 7) (oi := _) (v := ?_) rfl (by kernel_rfl) (by kernel_rfl) (by kernel_rfl) (fun _ _ _ h => h) (Or.inl ⟨by rfl, ?_⟩) (by assumption) ?_
    rotate_left 1
    · (intro w hSw; (try dsimp only at hSw); go_simp; try with_reducible rfl)
    try simp (maxSteps := 10000000) only [List.getElem_toArray, List.getElem_cons_succ, List.getElem_cons_zero, Act.put, List.setIfInBounds_toArray, List.set_cons_zero, List.set_cons_succ]
    refine wpAnyH_take (i := 8) (oi := _) (v := ?_) rfl (by kernel_rfl) (by kernel_rfl) (by kernel_rfl) (fun _ _ _ h => h) (Or.inl ⟨by rfl, ?_⟩) (by assumption) ?_
    rotate_left 1
    · (intro w hSw; (try dsimp only at hSw); go_simp; try with_reducible rfl)
    try simp (maxSteps := 10000000) only [List.getElem_toArray, List.getElem_cons_succ, List.getElem_cons_zero, Act.put, List.setIfInBounds_toArray, List.set_cons_zero, List.set_cons_succ]
    refine wpAnyH_take (i := 9) (oi := _) (v := ?_) rfl (by kernel_rfl) (by kernel_rfl) (by kernel_rfl) (fun _ _ _ h => h) (Or.inl ⟨by rfl, ?_⟩) (by assumption) ?_
    rotate_left 1
    · (intro w hSw; (try dsimp only at hSw); go_simp; try with_reducible rfl)
    try simp (maxSteps := 10000000) only [List.getElem_toArray, List.getElem_cons_succ, List.getElem_cons_zero, Act.put, List.setIfInBounds_toArray, List.set_cons_zero, List.set_cons_succ]
    refine wpAnyH_take (i := 11) (oi := _) (v := ?_) rfl (by kernel_rfl) (by kernel_rfl) (by kernel_rfl) (fun _ _ _ h => h) (Or.inl ⟨by rfl, ?_⟩) (by assumption) ?_
    rotate_left 1
    · (intro w hSw; (try dsimp only at hSw); go_simp; try with_reducible rfl)
    try simp (maxSteps := 10000000) only [List.getElem_toArray, List.getElem_cons_succ, List.getElem_cons_zero, Act.put, List.setIfInBounds_toArray, List.set_cons_zero, List.set_cons_succ]
    refine wpAnyH_take (i := 12) (oi := _) (v := ?_) rfl (by kernel_rfl) (by kernel_rfl) (by kernel_rfl) (fun _ _ _ h => h) (Or.inl ⟨by rfl, ?_⟩) (by assumption) ?_
    rotate_left 1
    · (intro w hSw; (try dsimp only at hSw); go_simp; try with_reducible rfl)
    try simp (maxSteps := 10000000) only [List.getElem_toArray, List.getElem_cons_succ, List.getElem_cons_zero, Act.put, List.setIfInBounds_toArray, List.set_cons_zero, List.set_cons_succ]
    refine wpAnyH_ready (rs := [10]) (by kernel_rfl) (by simp) ?_
    refine AllReadyH.cons rfl (fun K hK => ?_) AllReadyH.nil
    go_simp
    refine (sub_w _ _ X Y 140 _ (by decide) (mX.below f3) (mY.below f3)).mono ?_
    rintro e t4 ⟨r4, rfl, j4, l4'⟩
    have f4 : Below u2.heap.size u2 t4 := below_and f3 (Nat.le_refl _) l4'
    try go_simp
    refine hK.out _ _ ?_ (fun hHeld => ?_)
    · first | exact hS.out _ (by assumption) | assumption | (refine ⟨?_, ?_, ?_, ?_⟩ <;> assumption) | go_keep
    clear hK K
    try simp (maxSteps := 10000000) only [List.getElem_toArray, List.getElem_cons_succ, List.getElem_cons_zero, Act.put, List.setIfInBounds_toArray, List.set_cons_zero, List.set_cons_succ]
    refine wpAnyH_ready (rs := [13]) (by kernel_rfl) (by simp) ?_
    refine AllReadyH.cons rfl (fun K hK => ?_) AllReadyH.nil
    go_simp
    refine (rsub_w _ _ X Y 140 _ (by decide) (mX.below f4) (mY.below f4)).mono ?_
    rintro e t5 ⟨r5, rfl, j5, l5'⟩
    have f5 : Below u2.heap.size u2 t5 := below_and f4 (Nat.le_refl _) l5'
    try go_simp
    refine hK.out _ _ ?_ (fun hHeld => ?_)
    · first | exact hS.out _ (by assumption) | assumption | (refine ⟨?_, ?_, ?_, ?_⟩ <;> assumption) | go_keep
    clear hK K
    try simp (maxSteps := 10000000) only [List.getElem_toArray, List.getElem_cons_succ, List.getElem_cons_zero, Act.put, List.setIfInBounds_toArray, List.set_cons_zero, List.set_cons_succ]
    refine wpAnyH_ready (rs := [14]) (by kernel_rfl) (by simp) ?_
    refine AllReadyH.cons rfl (fun K hK => ?_) AllReadyH.nil
    go_simp
    refine (same_w _ _ (X - Y) 141 _ (by decide) (j4.below l5') j5).mono ?_
    rintro e t6 ⟨rfl, l6'⟩
    have f6 : Below u2.heap.size u2 t6 := below_and f5 (Nat.le_refl _) l6'
    clear j4 j5 l4' l5' l6' f3 f4 f5
    try go_simp
    refine hK.out _ _ ?_ (fun hHeld => ?_)
    · first | exact hS.out _ (by assumption) | assumption | (refine ⟨?_, ?_, ?_, ?_⟩ <;> assumption) | go_keep
    clear hK K
    try simp (maxSteps := 10000000) only [List.getElem_toArray, List.getElem_cons_succ, List.getElem_cons_zero, Act.put, List.setIfInBounds_toArray, List.set_cons_zero, List.set_cons_succ]
    refine wpAnyH_take (i := 15) (oi := _) (v := ?_) rfl (by kernel_rfl) (by kernel_rfl) (by kernel_rfl) (fun _ _ _ h => h) (Or.inl ⟨by rfl, ?_⟩) (by assumption) ?_
    rotate_left 1
    · (intro w hSw; (try dsimp only at hSw); go_simp; try with_reducible rfl)
    try simp (maxSteps := 10000000) only [List.getElem_toArray, List.getElem_cons_succ, List.getElem_cons_zero, Act.put, List.setIfInBounds_toArray, List.set_cons_zero, List.set_cons_succ]
    refine wpAnyH_take (i := 16) (oi := _) (v := ?_) rfl (by kernel_rfl) (by kernel_rfl) (by kernel_rfl) (fun _ _ _ h => h) (Or.inl ⟨by rfl, ?_⟩) (by assumption) ?_
    rotate_left 1
    · (intro w hSw; (try dsimp only at hSw); go_simp; try with_reducible rfl)
    try simp (maxSteps := 10000000) only [List.getElem_toArray, List.getElem_cons_succ, List.getElem_cons_zero, Act.put, List.setIfInBounds_toArray, List.set_cons_zero, List.set_cons_succ]
    refine wpAnyH_take (i := 17) (oi := _) (v := ?_) rfl (by kernel_rfl) (by kernel_rfl) (by kernel_rfl) (fun _ _ _ h => h) (Or.inl ⟨by rfl, ?_⟩) (by assumption) ?_
    rotate_left 1
    · (intro w hSw; (try dsimp only at hSw); go_simp; try with_reducible rfl)
    try simp (maxSteps := 10000000) only [List.getElem_toArray, List.getElem_cons_succ, List.getElem_cons_zero, Act.put, List.setIfInBounds_toArray, List.set_cons_zero, List.set_cons_succ]
    refine wpAnyH_take (i := 18) (oi := _) (v := ?_) rfl (by kernel_rfl) (by kernel_rfl) (by kernel_rfl) (fun _ _ _ h => h) (Or.inl ⟨by rfl, ?_⟩) (by assumption) ?_
    rotate_left 1
    · (intro w hSw; (try dsimp only at hSw); go_simp; try with_reducible rfl)
    try simp (maxSteps := 10000000) only [List.getElem_toArray, List.getElem_cons_succ, List.getElem_cons_zero, Act.put, List.setIfInBounds_toArray, List.set_cons_zero, List.set_cons_succ]
    refine wpAnyH_take (i := 19) (oi := _) (v := ?_) rfl (by kernel_rfl) (by kernel_rfl) (by kernel_rfl) (fun _ _ _ h => h) (Or.inl ⟨by rfl, ?_⟩) (by assumption) ?_
    rotate_left 1
    · (intro w hSw; (try dsimp only at hSw); go_simp; try with_reducible rfl)
    try simp (maxSteps := 10000000) only [List.getElem_toArray, List.getElem_cons_succ, List.getElem_cons_zero, Act.put, List.setIfInBounds_toArray, List.set_cons_zero, List.set_cons_succ]
    refine wpAnyH_take (i := 20) (oi := _) (v := ?_) rfl (by kernel_rfl) (by kernel_rfl) (by kernel_rfl) (fun _ _ _ h => h) (Or.inl ⟨by rfl, ?_⟩) (by assumption) ?_
    rotate_left 1
    · (intro w hSw; (try dsimp only at hSw); go_simp; try with_reducible rfl)
    try simp (maxSteps := 10000000) only [List.getElem_toArray, List.getElem_cons_succ, List.getElem_cons_zero, Act.put, List.setIfInBounds_toArray, List.set_cons_zero, List.set_cons_succ]
    refine wpAnyH_take (i := 21) (oi := _) (v := ?_) rfl (by kernel_rfl) (by kernel_rfl) (by kernel_rfl) (fun _ _ _ h => h) (Or.inl ⟨by rfl, ?_⟩) (by assumption) ?_
    rotate_left 1
    · (intro w hSw; (try dsimp only at hSw); go_simp; try with_reducible rfl)
    try simp (maxSteps := 10000000) only [List.getElem_toArray, List.getElem_cons_succ, List.getElem_cons_zero, Act.put, List.setIfInBounds_toArray, List.set_cons_zero, List.set_cons_succ]
    refine wpAnyH_take (i := 22) (oi := _) (v := ?_) rfl (by kernel_rfl) (by kernel_rfl) (by kernel_rfl) (fun _ _ _ h => h) (Or.inl ⟨by rfl, ?_⟩) (by assumption) ?_
    rotate_left 1
    · (intro w hSw; (try dsimp only at hSw); go_simp; try with_reducible rfl)
    try simp (maxSteps := 10000000) only [List.getElem_toArray, List.getElem_cons_succ, List.getElem_cons_zero, Act.put, List.setIfInBounds_toArray, List.set_cons_zero, List.set_cons_succ]
    refine wpAnyH_take (i := 23) (oi := _) (v := ?_) rfl (by kernel_rfl) (by kernel_rfl) (by kernel_rfl) (fun _ _ _ h => h) (Or.inl ⟨by rfl, ?_⟩) (by assumption) ?_
    rotate_left 1
    · (intro w hSw; (try dsimp only at hSw); go_simp; try with_reducible rfl)
    try simp (maxSteps := 10000000) only [List.getElem_toArray, List.getElem_cons_succ, List.getElem_cons_zero, Act.put, List.setIfInBounds_toArray, List.set_cons_zero, List.set_cons_succ]
    refine wpAnyH_ready (rs := [24]) (by kernel_rfl) (by simp) ?_
    refine AllReadyH.cons rfl (fun K hK => ?_) AllReadyH.nil
    go_simp
    refine (same_w _ _ MZ 128 _ (by decide) (mM.below f6) (mN.below f6)).mono ?_
    rintro e t7 ⟨rfl, l7'⟩
    have f7 : Below u2.heap.size u2 t7 := below_and f6 (Nat.le_refl _) l7'
    clear mM mN l7' f6
    try go_simp
    refine hK.out _ _ ?_ (fun hHeld => ?_)
    · first | exact hS.out _ (by assumption) | assumption | (refine ⟨?_, ?_, ?_, ?_⟩ <;> assumption) | go_keep
    clear hK K
    try simp (maxSteps := 10000000) only [List.getElem_toArray, List.getElem_cons_succ, List.getElem_cons_zero, Act.put, List.setIfInBounds_toArray, List.set_cons_zero, List.set_cons_succ]
    refine wpAnyH_take (i := 25) (oi := _) (v := ?_) rfl (by kernel_rfl) (by kernel_rfl) (by kernel_rfl) (fun _ _ _ h => h) (Or.inl ⟨by rfl, ?_⟩) (by assumption) ?_
    rotate_left 1
    · (intro w hSw; (try dsimp only at hSw); go_simp; try with_reducible rfl)
    try simp (maxSteps := 10000000) only [List.getElem_toArray, List.getElem_cons_succ, List.getElem_cons_zero, Act.put, List.setIfInBounds_toArray, List.set_cons_zero, List.set_cons_succ]
    refine wpAnyH_take (i := 26) (oi := _) (v := ?_) rfl (by kernel_rfl) (by kernel_rfl) (by kernel_rfl) (fun _ _ _ h => h) (Or.inl ⟨by rfl, ?_⟩) (by assumption) ?_
    rotate_left 1
    · (intro w hSw; (try dsimp only at hSw); go_simp; try with_reducible rfl)
    try simp (maxSteps := 10000000) only [List.getElem_toArray, List.getElem_cons_succ, List.getElem_cons_zero, Act.put, List.setIfInBounds_toArray, List.set_cons_zero, List.set_cons_succ]
    refine wpAnyH_take (i := 27) (oi := _) (v := ?_) rfl (by kernel_rfl) (by kernel_rfl) (by kernel_rfl) (fun _ _ _ h => h) (Or.inl ⟨by rfl, ?_⟩) (by assumption) ?_
    rotate_left 1
    · (intro w hSw; (try dsimp only at hSw); go_simp; try with_reducible rfl)
    try simp (maxSteps := 10000000) only [List.getElem_toArray, List.getElem_cons_succ, List.getElem_cons_zero, Act.put, List.setIfInBounds_toArray, List.set_cons_zero, List.set_cons_succ]
    refine wpAnyH_take (i := 28) (oi := _) (v := ?_) rfl (by kernel_rfl) (by kernel_rfl) (by kernel_rfl) (fun _ _ _ h => h) (Or.inl ⟨by rfl, ?_⟩) (by assumption) ?_
    rotate_left 1
    · (intro w hSw; (try dsimp only at hSw); go_simp; try with_reducible rfl)
    try simp (maxSteps := 10000000) only [List.getElem_toArray, List.getElem_cons_succ, List.getElem_cons_zero, Act.put, List.setIfInBounds_toArray, List.set_cons_zero, List.set_cons_succ]
    refine wpAnyH_take (i := 29) (oi := _) (v := ?_) rfl (by kernel_rfl) (by kernel_rfl) (by kernel_rfl) (fun _ _ _ h => h) (Or.inl ⟨by rfl, ?_⟩) (by assumption) ?_
    rotate_left 1
    · (intro w hSw; (try dsimp only at hSw); go_simp; try with_reducible rfl)
    try simp (maxSteps := 10000000) only [List.getElem_toArray, List.getElem_cons_succ, List.getElem_cons_zero, Act.put, List.setIfInBounds_toArray, List.set_cons_zero, List.set_cons_succ]
    refine wpAnyH_take (i := 30) (oi := _) (v := ?_) rfl (by kernel_rfl) (by kernel_rfl) (by kernel_rfl) (fun _ _ _ h => h) (Or.inl ⟨by rfl, ?_⟩) (by assumption) ?_
    rotate_left 1
    · (intro w hSw; (try dsimp only at hSw); go_simp; try with_reducible rfl)
    try simp (maxSteps := 10000000) only [List.getElem_toArray, List.getElem_cons_succ, List.getElem_cons_zero, Act.put, List.setIfInBounds_toArray, List.set_cons_zero, List.set_cons_succ]
    refine wpAnyH_take (i := 31) (oi := _) (v := ?_) rfl (by kernel_rfl) (by kernel_rfl) (by kernel_rfl) (fun _ _ _ h => h) (Or.inl ⟨by rfl, ?_⟩) (by assumption) ?_
    rotate_left 1
    · (intro w hSw; (try dsimp only at hSw); go_simp; try with_reducible rfl)
    try simp (maxSteps := 10000000) only [List.getElem_toArray, List.getElem_cons_succ, List.getElem_cons_zero, Act.put, List.setIfInBounds_toArray, List.set_cons_zero, List.set_cons_succ]
    refine wpAnyH_take (i := 32) (oi := _) (v := ?_) rfl (by kernel_rfl) (by kernel_rfl) (by kernel_rfl) (fun _ _ _ h => h) (Or.inl ⟨by rfl, ?_⟩) (by assumption) ?_
    rotate_left 1
    · (intro w hSw; (try dsimp only at hSw); go_simp; try with_reducible rfl)
    try simp (maxSteps := 10000000) only [List.getElem_toArray, List.getElem_cons_succ, List.getElem_cons_zero, Act.put, List.setIfInBounds_toArray, List.set_cons_zero, List.set_cons_succ]
    refine wpAnyH_take (i := 33) (oi := _) (v := ?_) rfl (by kernel_rfl) (by kernel_rfl) (by kernel_rfl) (fun _ _ _ h => h) (Or.inl ⟨by rfl, ?_⟩) (by assumption) ?_
    rotate_left 1
    · (intro w hSw; (try dsimp only at hSw); go_simp; try with_reducible rfl)
    try simp (maxSteps := 10000000) only [List.getElem_toArray, List.getElem_cons_succ, List.getElem_cons_zero, Act.put, List.setIfInBounds_toArray, List.set_cons_zero, List.set_cons_succ]
    refine wpAnyH_ready (rs := [34]) (by kernel_rfl) (by simp) ?_
    refine AllReadyH.cons rfl (fun K hK => ?_) AllReadyH.nil
    go_simp
    refine (same_w _ _ ZQ 140 _ (by decide) (mQ.below f7) (mU.below f7)).mono ?_
    rintro e t8' ⟨rfl, l8'⟩
    have f8 : Below u2.heap.size u2 t8' := below_and f7 (Nat.le_refl _) l8'
    clear mQ mU l8' f7
    try go_simp
    refine hK.out _ _ ?_ (fun hHeld => ?_)
    · first | exact hS.out _ (by assumption) | assumption | (refine ⟨?_, ?_, ?_, ?_⟩ <;> assumption) | go_keep
    clear hK K
    try simp (maxSteps := 10000000) only [List.getElem_toArray, List.getElem_cons_succ, List.getElem_cons_zero, Act.put, List.setIfInBounds_toArray, List.set_cons_zero, List.set_cons_succ]
    refine wpAnyH_take (i := 35) (oi := _) (v := ?_) rfl (by kernel_rfl) (by kernel_rfl) (by kernel_rfl) (fun _ _ _ h => h) (Or.inl ⟨by rfl, ?_⟩) (by assumption) ?_
    rotate_left 1
    · (intro w hSw; (try dsimp only at hSw); go_simp; try with_reducible rfl)
    try simp (maxSteps := 10000000) only [List.getElem_toArray, List.getElem_cons_succ, List.getElem_cons_zero, Act.put, List.setIfInBounds_toArray, List.set_cons_zero, List.set_cons_succ]
    refine wpAnyH_take (i := 36) (oi := _) (v := ?_) rfl (by kernel_rfl) (by kernel_rfl) (by kernel_rfl) (fun _ _ _ h => h) (Or.inl ⟨by rfl, ?_⟩) (by assumption) ?_
    rotate_left 1
    · (intro w hSw; (try dsimp only at hSw); go_simp; try with_reducible rfl)
    try simp (maxSteps := 10000000) only [List.getElem_toArray, List.getElem_cons_succ, List.getElem_cons_zero, Act.put, List.setIfInBounds_toArray, List.set_cons_zero, List.set_cons_succ]
    refine wpAnyH_take (i := 37) (oi := _) (v := ?_) rfl (by kernel_rfl) (by kernel_rfl) (by kernel_rfl) (fun _ _ _ h => h) (Or.inl ⟨by rfl, ?_⟩) (by assumption) ?_
    rotate_left 1
    · (intro w hSw; (try dsimp only at hSw); go_simp; try with_reducible rfl)
    try simp (maxSteps := 10000000) only [List.getElem_toArray, List.getElem_cons_succ, List.getElem_cons_zero, Act.put, List.setIfInBounds_toArray, List.set_cons_zero, List.set_cons_succ]
    refine wpAnyH_take (i := 38) (oi := _) (v := ?_) rfl (by kernel_rfl) (by kernel_rfl) (by kernel_rfl) (fun _ _ _ h => h) (Or.inl ⟨by rfl, ?_⟩) (by assumption) ?_
    rotate_left 1
    · (intro w hSw; (try dsimp only at hSw); go_simp; try with_reducible rfl)
    try simp (maxSteps := 10000000) only [List.getElem_toArray, List.getElem_cons_succ, List.getElem_cons_zero, Act.put, List.setIfInBounds_toArray, List.set_cons_zero, List.set_cons_succ]
    refine wpAnyH_ready (rs := [39]) (by kernel_rfl) (by simp) ?_
    refine AllReadyH.cons rfl (fun K hK => ?_) AllReadyH.nil
    go_simp
    refine (same_w _ _ ZR 140 _ (by decide) (mR.below f8) (mS.below f8)).mono ?_
    rintro e t9' ⟨rfl, l9'⟩
    have f9 : Below u2.heap.size u2 t9' := below_and f8 (Nat.le_refl _) l9'
    clear mR mS l9' f8
    try go_simp
    refine hK.out _ _ ?_ (fun hHeld => ?_)
    · first | exact hS.out _ (by assumption) | assumption | (refine ⟨?_, ?_, ?_, ?_⟩ <;> assumption) | go_keep
    clear hK K
    try simp (maxSteps := 10000000) only [List.getElem_toArray, List.getElem_cons_succ, List.getElem_cons_zero, Act.put, List.setIfInBounds_toArray, List.set_cons_zero, List.set_cons_succ]
    refine wpAnyH_take (i := 40) (oi := _) (v := ?_) rfl (by kernel_rfl) (by kernel_rfl) (by kernel_rfl) (fun _ _ _ h => h) (Or.inl ⟨by rfl, ?_⟩) (by assumption) ?_
    rotate_left 1
    · (intro w hSw; (try dsimp only at hSw); go_simp; try with_reducible rfl)
    try simp (maxSteps := 10000000) only [List.getElem_toArray, List.getElem_cons_succ, List.getElem_cons_zero, Act.put, List.setIfInBounds_toArray, List.set_cons_zero, List.set_cons_succ]
    refine wpAnyH_take (i := 41) (oi := _) (v := ?_) rfl (by kernel_rfl) (by kernel_rfl) (by kernel_rfl) (fun _ _ _ h => h) (Or.inl ⟨by rfl, ?_⟩) (by assumption) ?_
    rotate_left 1
    · (intro w hSw; (try dsimp only at hSw); go_simp; try with_reducible rfl)
    try simp (maxSteps := 10000000) only [List.getElem_toArray, List.getElem_cons_succ, List.getElem_cons_zero, Act.put, List.setIfInBounds_toArray, List.set_cons_zero, List.set_cons_succ]
    refine wpAnyH_take (i := 42) (oi := _) (v := ?_) rfl (by kernel_rfl) (by kernel_rfl) (by kernel_rfl) (fun _ _ _ h => h) (Or.inl ⟨by rfl, ?_⟩) (by assumption) ?_
    rotate_left 1
    · (intro w hSw; (try dsimp only at hSw); go_simp; try with_reducible rfl)
    try simp (maxSteps := 10000000) only [List.getElem_toArray, List.getElem_cons_succ, List.getElem_cons_zero, Act.put, List.setIfInBounds_toArray, List.set_cons_zero, List.set_cons_succ]
    refine wpAnyH_take (i := 43) (oi := _) (v := ?_) rfl (by kernel_rfl) (by kernel_rfl) (by kernel_rfl) (fun _ _ _ h => h) (Or.inl ⟨by rfl, ?_⟩) (by assumption) ?_
    rotate_left 1
    · (intro w hSw; (try dsimp only at hSw); go_simp; try with_reducible rfl)
    try simp (maxSteps := 10000000) only [List.getElem_toArray, List.getElem_cons_succ, List.getElem_cons_zero, Act.put, List.setIfInBounds_toArray, List.set_cons_zero, List.set_cons_succ]
    refine wpAnyH_take (i := 45) (oi := _) (v := ?_) rfl (by kernel_rfl) (by kernel_rfl) (by kernel_rfl) (fun _ _ _ h => h) (Or.inl ⟨by rfl, ?_⟩) (by assumption) ?_
    rotate_left 1
    · (intro w hSw; (try dsimp only at hSw); go_simp; try with_reducible rfl)
    try simp (maxSteps := 10000000) only [List.getElem_toArray, List.getElem_cons_succ, List.getElem_cons_zero, Act.put, List.setIfInBounds_toArray, List.set_cons_zero, List.set_cons_succ]
    refine wpAnyH_take (i := 46) (oi := _) (v := ?_) rfl (by kernel_rfl) (by kernel_rfl) (by kernel_rfl) (fun _ _ _ h => h) (Or.inl ⟨by rfl, ?_⟩) (by assumption) ?_
    rotate_left 1
    · (intro w hSw; (try dsimp only at hSw); go_simp; try with_reducible rfl)
    try simp (maxSteps := 10000000) only [List.getElem_toArray, List.getElem_cons_succ, List.getElem_cons_zero, Act.put, List.setIfInBounds_toArray, List.set_cons_zero, List.set_cons_succ]
    refine wpAnyH_ready (rs := [44]) (by kernel_rfl) (by simp) ?_
    refine AllReadyH.cons rfl (fun K hK => ?_) AllReadyH.nil
    go_simp
    refine (Compare_w _ _ X Y 140 _ (by decide) (mX.below f9) (mY.below f9)).mono ?_
    rintro e t10 ⟨rfl, l10'⟩
    rw [hCZ]
    have f10 : Below u2.heap.size u2 t10 := below_and f9 (Nat.le_refl _) l10'
    clear l10' f9
    try go_simp
    refine hK.out _ _ ?_ (fun hHeld => ?_)
    · first | exact hS.out _ (by assumption) | assumption | (refine ⟨?_, ?_, ?_, ?_⟩ <;> assumption) | go_keep
    clear hK K
    try simp (maxSteps := 10000000) only [List.getElem_toArray, List.getElem_cons_succ, List.getElem_cons_zero, Act.put, List.setIfInBounds_toArray, List.set_cons_zero, List.set_cons_succ]
    refine wpAnyH_ready (rs := [47]) (by kernel_rfl) (by simp) ?_
    refine AllReadyH.cons rfl (fun K hK => ?_) AllReadyH.nil
    go_simp
    refine (rcmp_w _ _ X Y 140 _ (by decide) (mX.below f10) (mY.below f10)).mono ?_
    rintro e t11 ⟨rfl, l11'⟩
    rw [hCZ]
    have f11 : Below u2.heap.size u2 t11 := below_and f10 (Nat.le_refl _) l11'
    clear l11' f10 hCZ mY
    try go_simp
    refine hK.out _ _ ?_ (fun hHeld => ?_)
    · first | exact hS.out _ (by assumption) | assumption | (refine ⟨?_, ?_, ?_, ?_⟩ <;> assumption) | go_keep
    clear hK K
    try simp (maxSteps := 10000000) only [List.getElem_toArray, List.getElem_cons_succ, List.getElem_cons_zero, Act.put, List.setIfInBounds_toArray, List.set_cons_zero, List.set_cons_succ]
    refine wpAnyH_take (i := 48) (oi := _) (v := ?_) rfl (by kernel_rfl) (by kernel_rfl) (by kernel_rfl) (fun _ _ _ h => h) (Or.inl ⟨by rfl, ?_⟩) (by assumption) ?_
    rotate_left 1
    · (intro w hSw; (try dsimp only at hSw); go_simp; try with_reducible rfl)
    try simp (maxSteps := 10000000) only [List.getElem_toArray, List.getElem_cons_succ, List.getElem_cons_zero, Act.put, List.setIfInBounds_toArray, List.set_cons_zero, List.set_cons_succ]
    refine wpAnyH_take (i := 49) (oi := _) (v := ?_) rfl (by kernel_rfl) (by kernel_rfl) (by kernel_rfl) (fun _ _ _ h => h) (Or.inl ⟨by rfl, ?_⟩) (by assumption) ?_
    rotate_left 1
    · (intro w hSw; (try dsimp only at hSw); go_simp; try with_reducible rfl)
    try simp (maxSteps := 10000000) only [List.getElem_toArray, List.getElem_cons_succ, List.getElem_cons_zero, Act.put, List.setIfInBounds_toArray, List.set_cons_zero, List.set_cons_succ]
    refine wpAnyH_take (i := 50) (oi := _) (v := ?_) rfl (by kernel_rfl) (by kernel_rfl) (by kernel_rfl) (fun _ _ _ h => h) (Or.inl ⟨by rfl, ?_⟩) (by assumption) ?_
    rotate_left 1
    · (intro w hSw; (try dsimp only at hSw); go_simp; try with_reducible rfl)
    try simp (maxSteps := 10000000) only [List.getElem_toArray, List.getElem_cons_succ, List.getElem_cons_zero, Act.put, List.setIfInBounds_toArray, List.set_cons_zero, List.set_cons_succ]
    refine wpAnyH_take (i := 51) (oi := _) (v := ?_) rfl (by kernel_rfl) (by kernel_rfl) (by kernel_rfl) (fun _ _ _ h => h) (Or.inl ⟨by rfl, ?_⟩) (by assumption) ?_
    rotate_left 1
    · (intro w hSw; (try dsimp only at hSw); go_simp; try with_reducible rfl)
    try simp (maxSteps := 10000000) only [List.getElem_toArray, List.getElem_cons_succ, List.getElem_cons_zero, Act.put, List.setIfInBounds_toArray, List.set_cons_zero, List.set_cons_succ]
    refine wpAnyH_take (i := 52) (oi := _) (v := ?_) rfl (by kernel_rfl) (by kernel_rfl) (by kernel_rfl) (fun _ _ _ h => h) (Or.inl ⟨by rfl, ?_⟩) (by assumption) ?_
    rotate_left 1
    · (intro w hSw; (try dsimp only at hSw); go_simp; try with_reducible rfl)
    try simp (maxSteps := 10000000) only [List.getElem_toArray, List.getElem_cons_succ, List.getElem_cons_zero, Act.put, List.setIfInBounds_toArray, List.set_cons_zero, List.set_cons_succ]
    refine wpAnyH_take (i := 53) (oi := _) (v := ?_) rfl (by kernel_rfl) (by kernel_rfl) (by kernel_rfl) (fun _ _ _ h => h) (Or.inl ⟨by rfl, ?_⟩) (by assumption) ?_
    rotate_left 1
    · (intro w hSw; (try dsimp only at hSw); go_simp; try with_reducible rfl)
    try simp (maxSteps := 10000000) only [List.getElem_toArray, List.getElem_cons_succ, List.getElem_cons_zero, Act.put, List.setIfInBounds_toArray, List.set_cons_zero, List.set_cons_succ]
    refine wpAnyH_take (i := 54) (oi := _) (v := ?_) rfl (by kernel_rfl) (by kernel_rfl) (by kernel_rfl) (fun _ _ _ h => h) (Or.inl ⟨by rfl, ?_⟩) (by assumption) ?_
    rotate_left 1
    · (intro w hSw; (try dsimp only at hSw); go_simp; try with_reducible rfl)
    try simp (maxSteps := 10000000) only [List.getElem_toArray, List.getElem_cons_succ, List.getElem_cons_zero, Act.put, List.setIfInBounds_toArray, List.set_cons_zero, List.set_cons_succ]
    refine wpAnyH_take (i := 55) (oi := _) (v := ?_) rfl (by kernel_rfl) (by kernel_rfl) (by kernel_rfl) (fun _ _ _ h => h) (Or.inl ⟨by rfl, ?_⟩) (by assumption) ?_
    rotate_left 1
    · (intro w hSw; (try dsimp only at hSw); go_simp; try with_reducible rfl)
    try simp (maxSteps := 10000000) only [List.getElem_toArray, List.getElem_cons_succ, List.getElem_cons_zero, Act.put, List.setIfInBounds_toArray, List.set_cons_zero, List.set_cons_succ]
    refine wpAnyH_take (i := 56) (oi := _) (v := ?_) rfl (by kernel_rfl) (by kernel_rfl) (by kernel_rfl) (fun _ _ _ h => h) (Or.inl ⟨by rfl, ?_⟩) (by assumption) ?_
    rotate_left 1
    · (intro w hSw; (try dsimp only at hSw); go_simp; try with_reducible rfl)
    try simp (maxSteps := 10000000) only [List.getElem_toArray, List.getElem_cons_succ, List.getElem_cons_zero, Act.put, List.setIfInBounds_toArray, List.set_cons_zero, List.set_cons_succ]
    refine wpAnyH_take (i := 57) (oi := _) (v := ?_) rfl (by kernel_rfl) (by kernel_rfl) (by kernel_rfl) (fun _ _ _ h => h) (Or.inl ⟨by rfl, ?_⟩) (by assumption) ?_
    rotate_left 1
    · (intro w hSw; (try dsimp only at hSw); go_simp; try with_reducible rfl)
    try simp (maxSteps := 10000000) only [List.getElem_toArray, List.getElem_cons_succ, List.getElem_cons_zero, Act.put, List.setIfInBounds_toArray, List.set_cons_zero, List.set_cons_succ]
    refine wpAnyH_take (i := 58) (oi := _) (v := ?_) rfl (by kernel_rfl) (by kernel_rfl) (by kernel_rfl) (fun _ _ _ h => h) (Or.inl ⟨by rfl, ?_⟩) (by assumption) ?_
    rotate_left 1
    · (intro w hSw; (try dsimp only at hSw); go_simp; try with_reducible rfl)
    try simp (maxSteps := 10000000) only [List.getElem_toArray, List.getElem_cons_succ, List.getElem_cons_zero, Act.put, List.setIfInBounds_toArray, List.set_cons_zero, List.set_cons_succ]
    refine wpAnyH_take (i := 59) (oi := _) (v := ?_) rfl (by kernel_rfl) (by kernel_rfl) (by kernel_rfl) (fun _ _ _ h => h) (Or.inl ⟨by rfl, ?_⟩) (by assumption) ?_
    rotate_left 1
    · (intro w hSw; (try dsimp only at hSw); go_simp; try with_reducible rfl)
    try simp (maxSteps := 10000000) only [List.getElem_toArray, List.getElem_cons_succ, List.getElem_cons_zero, Act.put, List.setIfInBounds_toArray, List.set_cons_zero, List.set_cons_succ]
    refine wpAnyH_take (i := 60) (oi := _) (v := ?_) rfl (by kernel_rfl) (by kernel_rfl) (by kernel_rfl) (fun _ _ _ h => h) (Or.inl ⟨by rfl, ?_⟩) (by assumption) ?_
    rotate_left 1
    · (intro w hSw; (try dsimp only at hSw); go_simp; try with_reducible rfl)
    try simp (maxSteps := 10000000) only [List.getElem_toArray, List.getElem_cons_succ, List.getElem_cons_zero, Act.put, List.setIfInBounds_toArray, List.set_cons_zero, List.set_cons_succ]
    refine wpAnyH_take (i := 61) (oi := _) (v := ?_) rfl (by kernel_rfl) (by kernel_rfl) (by kernel_rfl) (fun _ _ _ h => h) (Or.inl ⟨by rfl, ?_⟩) (by assumption) ?_
    rotate_left 1
    · (intro w hSw; (try dsimp only at hSw); go_simp; try with_reducible rfl)
    try simp (maxSteps := 10000000) only [List.getElem_toArray, List.getElem_cons_succ, List.getElem_cons_zero, Act.put, List.setIfInBounds_toArray, List.set_cons_zero, List.set_cons_succ]
    refine wpAnyH_take (i := 63) (oi := _) (v := ?_) rfl (by kernel_rfl) (by kernel_rfl) (by kernel_rfl) (fun _ _ _ h => h) (Or.inl ⟨by rfl, ?_⟩) (by assumption) ?_
    rotate_left 1
    · (intro w hSw; (try dsimp only at hSw); go_simp; try with_reducible rfl)
    try simp (maxSteps := 10000000) only [List.getElem_toArray, List.getElem_cons_succ, List.getElem_cons_zero, Act.put, List.setIfInBounds_toArray, List.set_cons_zero, List.set_cons_succ]
    refine wpAnyH_ready (rs := [62]) (by kernel_rfl) (by simp) ?_
    refine AllReadyH.cons rfl (fun K hK => ?_) AllReadyH.nil
    go_simp
    refine (norm_w _ X 140 _ (by decide) (mX.below f11)).mono ?_
    rintro e t12 ⟨s12, rfl, hF12, hk12, l12'⟩
    have f12 : Below u2.heap.size u2 t12 := below_and f11 (Nat.le_refl _) l12'
    have j12 := hF12.isC hk12
    obtain ⟨o12, c12, rfl, _⟩ := hF12.parts
    clear hF12 hk12
    clear f11
    try go_simp
    refine hK.out _ _ ?_ (fun hHeld => ?_)
    · first | exact hS.out _ (by assumption) | assumption | (refine ⟨?_, ?_, ?_, ?_⟩ <;> assumption) | go_keep
    clear hK K
    try simp (maxSteps := 10000000) only [List.getElem_toArray, List.getElem_cons_succ, List.getElem_cons_zero, Act.put, List.setIfInBounds_toArray, List.set_cons_zero, List.set_cons_succ]
    refine wpAnyH_ready (rs := [64]) (by kernel_rfl) (by simp) ?_
    refine AllReadyH.cons rfl (fun K hK => ?_) AllReadyH.nil
    go_simp
    refine (rnorm_w _ X 140 _ (by decide) (mX.below f12)).mono ?_
    rintro e t13 ⟨s13, rfl, hF13, hk13, l13'⟩
    have f13 : Below u2.heap.size u2 t13 := below_and f12 (Nat.le_refl _) l13'
    have j13 := hF13.isC hk13
    obtain ⟨o13, c13, rfl, _⟩ := hF13.parts
    clear hF13 hk13
    try go_simp
    refine hK.out _ _ ?_ (fun hHeld => ?_)
    · first | exact hS.out _ (by assumption) | assumption | (refine ⟨?_, ?_, ?_, ?_⟩ <;> assumption) | go_keep
    clear hK K
    try simp (maxSteps := 10000000) only [List.getElem_toArray, List.getElem_cons_succ, List.getElem_cons_zero, Act.put, List.setIfInBounds_toArray, List.set_cons_zero, List.set_cons_succ]
    refine wpAnyH_ready (rs := [65]) (by kernel_rfl) (by simp) ?_
    refine AllReadyH.cons rfl (fun K hK => ?_) AllReadyH.nil
    go_simp
    refine (same_w _ _ X 140 _ (by decide) (j12.below l13') j13).mono ?_
    rintro e t15 ⟨rfl, l15'⟩
    have f15 : Below u2.heap.size u2 t15 := below_and f13 (Nat.le_refl _) l15'
    try go_simp
    refine hK.out _ _ ?_ (fun hHeld => ?_)
    · first | exact hS.out _ (by assumption) | assumption | (refine ⟨?_, ?_, ?_, ?_⟩ <;> assumption) | go_keep
    clear hK K
    try simp (maxSteps := 10000000) only [List.getElem_toArray, List.getElem_cons_succ, List.getElem_cons_zero, Act.put, List.setIfInBounds_toArray, List.set_cons_zero, List.set_cons_succ]
    refine wpAnyH_take (i := 66) (oi := _) (v := ?_) rfl (by kernel_rfl) (by kernel_rfl) (by kernel_rfl) (fun _ _ _ h => h) (Or.inl ⟨by rfl, ?_⟩) (by assumption) ?_
    rotate_left 1
    · (intro w hSw; (try dsimp only at hSw); go_simp; try with_reducible rfl)
    try simp (maxSteps := 10000000) only [List.getElem_toArray, List.getElem_cons_succ, List.getElem_cons_zero, Act.put, List.setIfInBounds_toArray, List.set_cons_zero, List.set_cons_succ]
    refine wpAnyH_take (i := 67) (oi := _) (v := ?_) rfl (by kernel_rfl) (by kernel_rfl) (by kernel_rfl) (fun _ _ _ h => h) (Or.inl ⟨by rfl, ?_⟩) (by assumption) ?_
    rotate_left 1
    · (intro w hSw; (try dsimp only at hSw); go_simp; try with_reducible rfl)
    try simp (maxSteps := 10000000) only [List.getElem_toArray, List.getElem_cons_succ, List.getElem_cons_zero, Act.put, List.setIfInBounds_toArray, List.set_cons_zero, List.set_cons_succ]
    refine wpAnyH_done (by kernel_rfl) ?_ _
    go_wp2_with fail
    go_ret
    exact ⟨rfl, below_and BU (Nat.le_refl _) f15⟩
end Go.Proofs.Ytccogdlmlegmbaa.bigReckons
