/- TermMakes, walked. -/
import Derived.Test.YtgaecjocolihjabDoorMakesM
namespace Go.Proofs.YtgaecjocolihjabDoor.termMakes
open Go.ChangeShapes Go.WideShapes Go.ChangeAt Go.ChangeMaps Go.RowKit Go.Shelf
set_option linter.unusedSimpArgs false
set_option linter.unusedVariables false
set_option maxHeartbeats 8000000 in
set_option maxRecDepth 8000 in
theorem walk {H : Type} (enc : TypeId × Value → H) (base : Nat) (w : World) (v0 v1 v2 : Value) (d0 d1 d2 : DataW H) (p0 p1 p2 : List MemPlace)
    (o0 : Value.okWide Tryd.prog w .any base 22 v0) (h0 : DataW.Trod enc Tryd.prog w 0 (fun _ => true) true 22 v0 d0 p0)
    (o1 : Value.okWide Tryd.prog w .any base 25 v1) (h1 : DataW.Trod enc Tryd.prog w 0 (fun _ => true) true 25 v1 d1 p1)
    (o2 : Value.okWide Tryd.prog w .any base 26 v2) (h2 : DataW.Trod enc Tryd.prog w 0 (fun _ => true) true 26 v2 d2 p2)
    (hT : Tabs w) :
    Calls Tryd.prog 3 #[v0, v1, v2] w fun e w' => e = .returned (.bool true) ∧ Below w.heap.size w w' := by
  obtain ⟨o, l, c, rfl, hTR, hlc⟩ := open_terms o0 h0
  obtain ⟨na, oa, la, ca, rfl, hLa, hca, hma, _⟩ := open_num o1 h1
  obtain ⟨obb, bs, cbb, rfl, hBs, hcbb⟩ := open_bytes o2 h2
  clear o0 h0 o1 h1 o2 h2
  go_enter Tryd.func3, Tryd.ntmps3
  go_wp2_with fail
  have kA0 := Box.new w (.bool na) (.slice oa la.length ca) 25
  have hB0 : Below w.heap.size w (w.alloc (.cells #[.bool na, .slice oa la.length ca] 25)) := (Below.refl _ w).alloc (Nat.le_refl _) _
  have hz0 : (w.alloc (.cells #[.bool na, .slice oa la.length ca] 25)).heap.size = w.heap.size + 1 := by simp
  generalize (w.alloc (.cells #[.bool na, .slice oa la.length ca] 25)) = W0 at *
  refine (awake_w _ (hT.below hB0)).mono ?_
  rintro e w1 ⟨rfl, b1⟩
  have hB1 := below_and hB0 (by omega) b1
  have kA1 := kA0.below b1 (by omega)
  have hz1 := b1.size
  clear kA0 hB0 b1
  go_wp2_with fail
  refine (Rooms_w 40 (by omega) l o c _ (tr_below hTR hB1) (hT.below hB1)).mono ?_
  rintro e w2 ⟨rfl, b2⟩
  have hB2 := below_and hB1 (Nat.le_refl _) b2
  have kA2 := kA1.below b2 (by omega)
  have hz2 := b2.size
  have hTR2 := tr_below hTR hB2
  clear b2 hB1 kA1
  obtain ⟨bb, hbb⟩ : ∃ bb, (decide (l.length ≤ 40) && l.all okRow) = bb := ⟨_, rfl⟩
  rw [hbb]
  obtain ⟨f1, f2, f3, f4⟩ := id kA2
  cases bb with
  | false =>
    clear hbb
    go_wp2
    go_ret
    exact ⟨rfl, hB2⟩
  | true =>
  rw [Bool.and_eq_true] at hbb
  have hl40 : l.length ≤ 40 := of_decide_eq_true hbb.1
  obtain ⟨hfa, hdep, hpl⟩ := rooms_facts hTR2 hbb.2
  clear hbb
  by_cases hl : 64 < la.length
  · have hl' : (64 : Int) < (la.length : Int) := by omega
    go_wp2
    go_ret
    exact ⟨rfl, hB2⟩
  have hl' : ¬ (64 : Int) < (la.length : Int) := by omega
  by_cases hb3 : 3000 < bs.length
  · have hb3' : (3000 : Int) < (bs.length : Int) := by omega
    go_wp2
    go_ret
    exact ⟨rfl, hB2⟩
  have hb3' : ¬ (3000 : Int) < (bs.length : Int) := by omega
  have hHP : Hid ((partsL l).length ≤ 2621440) := hid (by have := sum_parts l hpl; have := Nat.mul_le_mul_right 65536 hl40; omega)
  have hok : Hid (∀ p ∈ partsL l, p.ok1) := hid (fun p hp => (hfa p hp).1)
  have hfair := hid hfa
  have hcp : Hid (cpL l = l) := hid (cpL_id l (fun q hq => (hfa q hq).2))
  obtain ⟨X, hX⟩ : ∃ X, sv na (gval 4294967296 la) = X := ⟨_, rfl⟩
  have hNX0 : ∀ w', Below w.heap.size w w' → IsN (.agg #[.bool na, .slice oa la.length ca]) X 64 w' := fun w' hb => ⟨na, oa, la, ca, rfl, hLa.below hb, hca, hma, hX, by omega⟩
  clear hLa hca hma hX hfa hdep hpl
  go_wp2_with fail
  clear f1 f2 f3 f4
  refine (List_any l o c _ (by have := hHP.out; omega) (by omega) hok.out hTR2).mono ?_
  rw [hcp.out]
  rintro e w3 ⟨v3, rfl, hV3, b3⟩
  have hB3 := below_and hB2 (by omega) b3
  have kA3 := kA2.below b3 (by omega)
  have hz3 := b3.size
  have hV3 := tv_low hV3
  obtain ⟨tk, tneg, tod, tld, tcd, tnm, tn, tol, tll, tcl, tob, tlb, tcb, rfl⟩ := hV3.form
  clear b3 hTR2 kA2
  obtain ⟨kT, hBT, hzT⟩ := bx1 w3 (.int .i64 tk) (.bool tneg) (.slice tod tld tcd) (.string tnm) (.int .i64 tn) (.slice tol tll tcl) (.slice tob tlb tcb) 30
  have hB4 := below_and hB3 (by omega) hBT
  have kA4 := kA3.below hBT (by omega)
  have hV4 := tv_below hV3 hBT
  go_upto_region 6 with fail
  clear hB3 kA3 hV3 hBT
  generalize (w3.alloc (.cells #[.int .i64 tk, .bool tneg, .slice tod tld tcd, .string tnm, .int .i64 tn, .slice tol tll tcl, .slice tob tlb tcb] 30)) = W4 at *
  have hgw0 : w.heap.size < w3.heap.size := by omega
  obtain ⟨gT, hgT⟩ : ∃ gT, w3.heap.size = gT := ⟨_, rfl⟩
  rw [hgT] at kT hzT hgw0 ⊢
  clear hgT hz3
  obtain ⟨x0, x1, x2, x3, x4, x5, x6⟩ := kT.res
  go_wp2_with fail
  clear x0 x1 x2 x3 x4 x5 x6
  refine (Items_w _ _ _ _ _ (ch_list l) (by have := hHP.out; omega) (by omega) hok.out hV4).mono ?_
  rintro e w5 ⟨hI, b5⟩
  obtain ⟨om, cm, rfl, hRm⟩ := itP_true hI
  rw [hcp.out] at hRm
  have hRm := tr_low hRm
  have hB5 := below_and hB4 (by omega) b5
  have kA5 := kA4.below b5 (by omega)
  have kT5 := kT.below b5
  have hV5 := tv_below hV4 b5
  have hz5 := b5.size
  clear hI b5 hB4 kA4 kT hV4
  obtain ⟨f1, f2, f3, f4⟩ := id kA5
  go_upto_region 7 with fail
  go_wp2_with fail
  clear f1 f2 f3 f4
  refine (Num_w _ X 64 _ (by omega) (hNX0 _ hB5)).mono ?_
  rintro e w6 ⟨v6, rfl, hV6, hX64, b6⟩
  have hB6 := below_and hB5 (by omega) b6
  have kA6 := kA5.below b6 (by omega)
  have kT6 := kT5.below b6
  have hV56 := tv_below hV5 b6
  have hRm6 := tr_below hRm b6
  have hz6 := b6.size
  have hV6 := tv_low hV6
  obtain ⟨z, mm, od, cd, ol, cl, ob, cb, rfl, hNx⟩ := tv_intN hV6 hX64
  clear b6 hB5 kA5 kT5 hV5 hRm hV6 hX64
  go_wp2_with fail
  refine (Of_w X 64 z mm od cd ol ob 0 cl 0 cb noS 0 _ (by omega) hNx).mono ?_
  rintro e w7 ⟨nb, no, nn, nc, rfl, hC7, b7⟩
  have hB7 := below_and hB6 (by omega) b7
  have kA7 := kA6.below b7 (by omega)
  have kT7 := kT6.below b7
  have hV7 := tv_below hV56 b7
  have hRm7 := tr_below hRm6 b7
  have hz7 := b7.size
  clear b7 hB6 kA6 kT6 hV56 hRm6 hNx
  have kN := Box.new w7 (.bool nb) (.slice no nn nc) 34
  have hBN : Below w7.heap.size w7 (w7.alloc (.cells #[.bool nb, .slice no nn nc] 34)) := (Below.refl _ _).alloc (Nat.le_refl _) _
  have hzN : (w7.alloc (.cells #[.bool nb, .slice no nn nc] 34)).heap.size = w7.heap.size + 1 := by simp
  have hB8 := below_and hB7 (by omega) hBN
  have kA8 := kA7.below hBN (by omega)
  have kT8 := kT7.below hBN
  have hV8 := tv_below hV7 hBN
  have hRm8 := tr_below hRm7 hBN
  have hC8 := hC7.below hBN
  go_upto_region 8 with fail
  clear hB7 kA7 kT7 hV7 hRm7 hC7 hBN
  generalize (w7.alloc (.cells #[.bool nb, .slice no nn nc] 34)) = V at *
  obtain ⟨gN, hgN⟩ : ∃ gN, w7.heap.size = gN := ⟨_, rfl⟩
  rw [hgN] at kN hzN ⊢
  clear hgN
  have hTRv := hid (fun w' (hb : Below V.heap.size V w') => tr_below hTR (below_and hB8 (by omega) hb))
  have hTt := hid (fun w' (hb : Below V.heap.size V w') => tv_below hV8 hb)
  have hTm := hid (fun w' (hb : Below V.heap.size V w') => tr_below hRm8 hb)
  have hTa := hid (fun w' (hb : Below V.heap.size V w') => hT.below (below_and hB8 (by omega) hb))
  have hNX := hid (fun w' (hb : Below V.heap.size V w') => hNX0 w' (below_and hB8 (by omega) hb))
  have hCn := hid (fun w' (hb : Below V.heap.size V w') => hC8.below hb)
  have hBv := hid (fun w' (hb : Below V.heap.size V w') => (hBs.zs (fun k hk => (below_and hB8 (by omega) hb).block k hk)).mono (Z' := Low w') (fun k hk _ => hk))
  have hDr : Below V.heap.size V V.drew := (Below.refl _ V).drew
  have hwl : w.heap.size < V.heap.size := kA8.lt
  have hS : Hid (∀ w', Below V.heap.size V w' → (w'.cell? ⟨gT, 0, none⟩ = some (.int .i64 tk) ∧ w'.cell? ⟨gT, 1, none⟩ = some (.bool tneg) ∧ w'.cell? ⟨gT, 2, none⟩ = some (.slice tod tld tcd) ∧ w'.cell? ⟨gT, 3, none⟩ = some (.string tnm) ∧ w'.cell? ⟨gT, 4, none⟩ = some (.int .i64 tn) ∧ w'.cell? ⟨gT, 5, none⟩ = some (.slice tol tll tcl) ∧ w'.cell? ⟨gT, 6, none⟩ = some (.slice tob tlb tcb) ∧ w'.cell? ⟨gN, 0, none⟩ = some (.bool nb) ∧ w'.cell? ⟨gN, 1, none⟩ = some (.slice no nn nc) ∧ w'.cell? ⟨w.heap.size, 0, none⟩ = some (.bool na) ∧ w'.cell? ⟨w.heap.size, 1, none⟩ = some (.slice oa la.length ca))) := hid (fun w' hb => by
    obtain ⟨x0, x1, x2, x3, x4, x5, x6⟩ := (kT8.below hb).res
    exact ⟨x0, x1, x2, x3, x4, x5, x6, (kN.below hb kN.lt).1, (kN.below hb kN.lt).2.1, (kA8.below hb kA8.lt).1, (kA8.below hb kA8.lt).2.1⟩)
  have HB := hid hB8
  clear hB8 kA8 kT8 kN hV8 hRm8 hC8 hTR hT hNX0 hBs
  refine wp_region_held_drew (S := fun w' => w'.cell? ⟨gT, 0, none⟩ = some (.int .i64 tk) ∧ w'.cell? ⟨gT, 1, none⟩ = some (.bool tneg) ∧ w'.cell? ⟨gT, 2, none⟩ = some (.slice tod tld tcd) ∧ w'.cell? ⟨gT, 3, none⟩ = some (.string tnm) ∧ w'.cell? ⟨gT, 4, none⟩ = some (.int .i64 tn) ∧ w'.cell? ⟨gT, 5, none⟩ = some (.slice tol tll tcl) ∧ w'.cell? ⟨gT, 6, none⟩ = some (.slice tob tlb tcb) ∧ w'.cell? ⟨gN, 0, none⟩ = some (.bool nb) ∧ w'.cell? ⟨gN, 1, none⟩ = some (.slice no nn nc) ∧ w'.cell? ⟨w.heap.size, 0, none⟩ = some (.bool na) ∧ w'.cell? ⟨w.heap.size, 1, none⟩ = some (.slice oa la.length ca)) (by kernel_rfl) (by exact hS.out _ hDr) (fun hHeld => ?_)
  refine wpAnyH_take (i := 0) (oi := _) (v := ?_) rfl (by kernel_rfl) (by kernel_rfl) (by kernel_rfl) (fun _ _ _ h => h) (Or.inl ⟨by rfl, ?_⟩) (by assumption) ?_
  rotate_left 1
  · (intro w hSw; (try dsimp only at hSw); go_simp; try with_reducible rfl)
  try simp (maxSteps := 10000000) only [List.getElem_toArray, List.getElem_cons_succ, List.getElem_cons_zero, Act.put, List.setIfInBounds_toArray, List.set_cons_zero, List.set_cons_succ]
  refine wpAnyH_take (i := 1) (oi := _) (v := ?_) rfl (by kernel_rfl) (by kernel_rfl) (by kernel_rfl) (fun _ _ _ h => h) (Or.inl ⟨by rfl, ?_⟩) (by assumption) ?_
  rotate_left 1
  · (intro w hSw; (try dsimp only at hSw); go_simp; try with_reducible rfl)
  try simp (maxSteps := 10000000) only [List.getElem_toArray, List.getElem_cons_succ, List.getElem_cons_zero, Act.put, List.setIfInBounds_toArray, List.set_cons_zero, List.set_cons_succ]
  refine wpAnyH_ready (rs := [2]) (by kernel_rfl) (by simp) ?_
  refine AllReadyH.cons rfl (fun K hK => ?_) AllReadyH.nil
  go_simp
  refine (rList_w l o c _ (by omega) hfair.out (hTRv.out _ hDr)).mono ?_
  rintro e q2 ⟨v2, rfl, hV2, r2⟩
  have d2 : Below V.heap.size V q2 := below_and hDr (Nat.le_refl _) r2
  have iL2 := tv_low hV2
  obtain ⟨xk, xneg, xod, xld, xcd, xnm, xn, xol, xll, xcl, xob, xlb, xcb, rfl⟩ := hV2.form
  clear hV2
  try go_simp
  refine hK.out _ _ ?_ (fun hHeld => ?_)
  · exact hS.out _ (by assumption)
  clear hK K
  try simp (maxSteps := 10000000) only [List.getElem_toArray, List.getElem_cons_succ, List.getElem_cons_zero, Act.put, List.setIfInBounds_toArray, List.set_cons_zero, List.set_cons_succ]
  refine wpAnyH_ready (rs := [3]) (by kernel_rfl) (by simp) ?_
  refine AllReadyH.cons rfl (fun K hK => ?_) AllReadyH.nil
  go_simp
  refine (rSame_w (listT l) (listT l) _ _ _ (ok_list hok.out) (ok_list hok.out) (hTt.out _ d2) iL2 (hTa.out _ d2)).mono ?_
  rw [cT_refl]
  rintro e q3 ⟨rfl, r3⟩
  have d3 : Below V.heap.size V q3 := below_and d2 (Nat.le_refl _) r3
  try go_simp
  refine hK.out _ _ ?_ (fun hHeld => ?_)
  · exact hS.out _ (by assumption)
  clear hK K
  try simp (maxSteps := 10000000) only [List.getElem_toArray, List.getElem_cons_succ, List.getElem_cons_zero, Act.put, List.setIfInBounds_toArray, List.set_cons_zero, List.set_cons_succ]
  refine wpAnyH_take (i := 4) (oi := _) (v := ?_) rfl (by kernel_rfl) (by kernel_rfl) (by kernel_rfl) (fun _ _ _ h => h) (Or.inl ⟨by rfl, ?_⟩) (by assumption) ?_
  rotate_left 1
  · (intro w hSw; (try dsimp only at hSw); go_simp; try with_reducible rfl)
  try simp (maxSteps := 10000000) only [List.getElem_toArray, List.getElem_cons_succ, List.getElem_cons_zero, Act.put, List.setIfInBounds_toArray, List.set_cons_zero, List.set_cons_succ]
  refine wpAnyH_take (i := 5) (oi := _) (v := ?_) rfl (by kernel_rfl) (by kernel_rfl) (by kernel_rfl) (fun _ _ _ h => h) (Or.inl ⟨by rfl, ?_⟩) (by assumption) ?_
  rotate_left 1
  · (intro w hSw; (try dsimp only at hSw); go_simp; try with_reducible rfl)
  try simp (maxSteps := 10000000) only [List.getElem_toArray, List.getElem_cons_succ, List.getElem_cons_zero, Act.put, List.setIfInBounds_toArray, List.set_cons_zero, List.set_cons_succ]
  refine wpAnyH_take (i := 7) (oi := _) (v := ?_) rfl (by kernel_rfl) (by kernel_rfl) (by kernel_rfl) (fun _ _ _ h => h) (Or.inl ⟨by rfl, ?_⟩) (by assumption) ?_
  rotate_left 1
  · (intro w hSw; (try dsimp only at hSw); go_simp; try with_reducible rfl)
  try simp (maxSteps := 10000000) only [List.getElem_toArray, List.getElem_cons_succ, List.getElem_cons_zero, Act.put, List.setIfInBounds_toArray, List.set_cons_zero, List.set_cons_succ]
  refine wpAnyH_ready (rs := [6]) (by kernel_rfl) (by simp) ?_
  refine AllReadyH.cons rfl (fun K hK => ?_) AllReadyH.nil
  go_simp
  refine (Tuple_w l o c _ hlc (by have := hHP.out; omega) (by omega) hok.out (hTRv.out _ d3)).mono ?_
  rw [hcp.out]
  rintro e q6 ⟨v6, rfl, hV6, r6⟩
  have d6 : Below V.heap.size V q6 := below_and d3 (Nat.le_refl _) r6
  have iT6 := tv_low hV6
  obtain ⟨yk, yneg, yod, yld, ycd, ynm, yn, yol, yll, ycl, yob, ylb, ycb, rfl⟩ := hV6.form
  clear hV6
  try go_simp
  refine hK.out _ _ ?_ (fun hHeld => ?_)
  · exact hS.out _ (by assumption)
  clear hK K
  try simp (maxSteps := 10000000) only [List.getElem_toArray, List.getElem_cons_succ, List.getElem_cons_zero, Act.put, List.setIfInBounds_toArray, List.set_cons_zero, List.set_cons_succ]
  refine wpAnyH_ready (rs := [8]) (by kernel_rfl) (by simp) ?_
  refine AllReadyH.cons rfl (fun K hK => ?_) AllReadyH.nil
  go_simp
  refine (rTuple_w l o c _ (by omega) hfair.out (hTRv.out _ d6)).mono ?_
  rintro e q8 ⟨v8, rfl, hV8, r8⟩
  have d8 : Below V.heap.size V q8 := below_and d6 (Nat.le_refl _) r8
  have iT8 := tv_low hV8
  have iT68 := tv_below iT6 r8
  obtain ⟨zk, zneg, zod, zld, zcd, znm, zn, zol, zll, zcl, zob, zlb, zcb, rfl⟩ := hV8.form
  clear hV8
  try go_simp
  refine hK.out _ _ ?_ (fun hHeld => ?_)
  · exact hS.out _ (by assumption)
  clear hK K
  try simp (maxSteps := 10000000) only [List.getElem_toArray, List.getElem_cons_succ, List.getElem_cons_zero, Act.put, List.setIfInBounds_toArray, List.set_cons_zero, List.set_cons_succ]
  refine wpAnyH_ready (rs := [9]) (by kernel_rfl) (by simp) ?_
  refine AllReadyH.cons rfl (fun K hK => ?_) AllReadyH.nil
  go_simp
  refine (rSame_w (tupT l) (tupT l) _ _ _ (ok_tup (by omega) hok.out) (ok_tup (by omega) hok.out) iT68 iT8 (hTa.out _ d8)).mono ?_
  rw [cT_refl]
  rintro e q9 ⟨rfl, r9⟩
  have d9 : Below V.heap.size V q9 := below_and d8 (Nat.le_refl _) r9
  try go_simp
  refine hK.out _ _ ?_ (fun hHeld => ?_)
  · exact hS.out _ (by assumption)
  clear hK K
  try simp (maxSteps := 10000000) only [List.getElem_toArray, List.getElem_cons_succ, List.getElem_cons_zero, Act.put, List.setIfInBounds_toArray, List.set_cons_zero, List.set_cons_succ]
  refine wpAnyH_take (i := 10) (oi := _) (v := ?_) rfl (by kernel_rfl) (by kernel_rfl) (by kernel_rfl) (fun _ _ _ h => h) (Or.inl ⟨by rfl, ?_⟩) (by assumption) ?_
  rotate_left 1
  · (intro w hSw; (try dsimp only at hSw); go_simp; try with_reducible rfl)
  try simp (maxSteps := 10000000) only [List.getElem_toArray, List.getElem_cons_succ, List.getElem_cons_zero, Act.put, List.setIfInBounds_toArray, List.set_cons_zero, List.set_cons_succ]
  refine wpAnyH_take (i := 11) (oi := _) (v := ?_) rfl (by kernel_rfl) (by kernel_rfl) (by kernel_rfl) (fun _ _ _ h => h) (Or.inl ⟨by rfl, ?_⟩) (by assumption) ?_
  rotate_left 1
  · (intro w hSw; (try dsimp only at hSw); go_simp; try with_reducible rfl)
  try simp (maxSteps := 10000000) only [List.getElem_toArray, List.getElem_cons_succ, List.getElem_cons_zero, Act.put, List.setIfInBounds_toArray, List.set_cons_zero, List.set_cons_succ]
  refine wpAnyH_take (i := 12) (oi := _) (v := ?_) rfl (by kernel_rfl) (by kernel_rfl) (by kernel_rfl) (fun _ _ _ h => h) (Or.inl ⟨by rfl, ?_⟩) (by assumption) ?_
  rotate_left 1
  · (intro w hSw; (try dsimp only at hSw); go_simp; try with_reducible rfl)
  try simp (maxSteps := 10000000) only [List.getElem_toArray, List.getElem_cons_succ, List.getElem_cons_zero, Act.put, List.setIfInBounds_toArray, List.set_cons_zero, List.set_cons_succ]
  refine wpAnyH_take (i := 13) (oi := _) (v := ?_) rfl (by kernel_rfl) (by kernel_rfl) (by kernel_rfl) (fun _ _ _ h => h) (Or.inl ⟨by rfl, ?_⟩) (by assumption) ?_
  rotate_left 1
  · (intro w hSw; (try dsimp only at hSw); go_simp; try with_reducible rfl)
  try simp (maxSteps := 10000000) only [List.getElem_toArray, List.getElem_cons_succ, List.getElem_cons_zero, Act.put, List.setIfInBounds_toArray, List.set_cons_zero, List.set_cons_succ]
  refine wpAnyH_take (i := 14) (oi := _) (v := ?_) rfl (by kernel_rfl) (by kernel_rfl) (by kernel_rfl) (fun _ _ _ h => h) (Or.inl ⟨by rfl, ?_⟩) (by assumption) ?_
  rotate_left 1
  · (intro w hSw; (try dsimp only at hSw); go_simp; try with_reducible rfl)
  try simp (maxSteps := 10000000) only [List.getElem_toArray, List.getElem_cons_succ, List.getElem_cons_zero, Act.put, List.setIfInBounds_toArray, List.set_cons_zero, List.set_cons_succ]
  refine wpAnyH_take (i := 15) (oi := _) (v := ?_) rfl (by kernel_rfl) (by kernel_rfl) (by kernel_rfl) (fun _ _ _ h => h) (Or.inl ⟨by rfl, ?_⟩) (by assumption) ?_
  rotate_left 1
  · (intro w hSw; (try dsimp only at hSw); go_simp; try with_reducible rfl)
  try simp (maxSteps := 10000000) only [List.getElem_toArray, List.getElem_cons_succ, List.getElem_cons_zero, Act.put, List.setIfInBounds_toArray, List.set_cons_zero, List.set_cons_succ]
  refine wpAnyH_take (i := 16) (oi := _) (v := ?_) rfl (by kernel_rfl) (by kernel_rfl) (by kernel_rfl) (fun _ _ _ h => h) (Or.inl ⟨by rfl, ?_⟩) (by assumption) ?_
  rotate_left 1
  · (intro w hSw; (try dsimp only at hSw); go_simp; try with_reducible rfl)
  try simp (maxSteps := 10000000) only [List.getElem_toArray, List.getElem_cons_succ, List.getElem_cons_zero, Act.put, List.setIfInBounds_toArray, List.set_cons_zero, List.set_cons_succ]
  refine wpAnyH_ready (rs := [17]) (by kernel_rfl) (by simp) ?_
  refine AllReadyH.cons rfl (fun K hK => ?_) AllReadyH.nil
  go_simp
  refine (rSameRow_w l l om o cm c _ (by omega) (by omega) hok.out hok.out (hTm.out _ d9) (hTRv.out _ d9) (hTa.out _ d9)).mono ?_
  rw [sameL_refl]
  rintro e q17 ⟨rfl, r17⟩
  have d17 : Below V.heap.size V q17 := below_and d9 (Nat.le_refl _) r17
  try go_simp
  refine hK.out _ _ ?_ (fun hHeld => ?_)
  · exact hS.out _ (by assumption)
  clear hK K
  try simp (maxSteps := 10000000) only [List.getElem_toArray, List.getElem_cons_succ, List.getElem_cons_zero, Act.put, List.setIfInBounds_toArray, List.set_cons_zero, List.set_cons_succ]
  refine wpAnyH_take (i := 18) (oi := _) (v := ?_) rfl (by kernel_rfl) (by kernel_rfl) (by kernel_rfl) (fun _ _ _ h => h) (Or.inl ⟨by rfl, ?_⟩) (by assumption) ?_
  rotate_left 1
  · (intro w hSw; (try dsimp only at hSw); go_simp; try with_reducible rfl)
  try simp (maxSteps := 10000000) only [List.getElem_toArray, List.getElem_cons_succ, List.getElem_cons_zero, Act.put, List.setIfInBounds_toArray, List.set_cons_zero, List.set_cons_succ]
  refine wpAnyH_take (i := 19) (oi := _) (v := ?_) rfl (by kernel_rfl) (by kernel_rfl) (by kernel_rfl) (fun _ _ _ h => h) (Or.inl ⟨by rfl, ?_⟩) (by assumption) ?_
  rotate_left 1
  · (intro w hSw; (try dsimp only at hSw); go_simp; try with_reducible rfl)
  try simp (maxSteps := 10000000) only [List.getElem_toArray, List.getElem_cons_succ, List.getElem_cons_zero, Act.put, List.setIfInBounds_toArray, List.set_cons_zero, List.set_cons_succ]
  refine wpAnyH_take (i := 20) (oi := _) (v := ?_) rfl (by kernel_rfl) (by kernel_rfl) (by kernel_rfl) (fun _ _ _ h => h) (Or.inl ⟨by rfl, ?_⟩) (by assumption) ?_
  rotate_left 1
  · (intro w hSw; (try dsimp only at hSw); go_simp; try with_reducible rfl)
  try simp (maxSteps := 10000000) only [List.getElem_toArray, List.getElem_cons_succ, List.getElem_cons_zero, Act.put, List.setIfInBounds_toArray, List.set_cons_zero, List.set_cons_succ]
  refine wpAnyH_take (i := 21) (oi := _) (v := ?_) rfl (by kernel_rfl) (by kernel_rfl) (by kernel_rfl) (fun _ _ _ h => h) (Or.inl ⟨by rfl, ?_⟩) (by assumption) ?_
  rotate_left 1
  · (intro w hSw; (try dsimp only at hSw); go_simp; try with_reducible rfl)
  try simp (maxSteps := 10000000) only [List.getElem_toArray, List.getElem_cons_succ, List.getElem_cons_zero, Act.put, List.setIfInBounds_toArray, List.set_cons_zero, List.set_cons_succ]
  refine wpAnyH_take (i := 22) (oi := _) (v := ?_) rfl (by kernel_rfl) (by kernel_rfl) (by kernel_rfl) (fun _ _ _ h => h) (Or.inl ⟨by rfl, ?_⟩) (by assumption) ?_
  rotate_left 1
  · (intro w hSw; (try dsimp only at hSw); go_simp; try with_reducible rfl)
  try simp (maxSteps := 10000000) only [List.getElem_toArray, List.getElem_cons_succ, List.getElem_cons_zero, Act.put, List.setIfInBounds_toArray, List.set_cons_zero, List.set_cons_succ]
  refine wpAnyH_take (i := 23) (oi := _) (v := ?_) rfl (by kernel_rfl) (by kernel_rfl) (by kernel_rfl) (fun _ _ _ h => h) (Or.inl ⟨by rfl, ?_⟩) (by assumption) ?_
  rotate_left 1
  · (intro w hSw; (try dsimp only at hSw); go_simp; try with_reducible rfl)
  try simp (maxSteps := 10000000) only [List.getElem_toArray, List.getElem_cons_succ, List.getElem_cons_zero, Act.put, List.setIfInBounds_toArray, List.set_cons_zero, List.set_cons_succ]
  refine wpAnyH_take (i := 24) (oi := _) (v := ?_) rfl (by kernel_rfl) (by kernel_rfl) (by kernel_rfl) (fun _ _ _ h => h) (Or.inl ⟨by rfl, ?_⟩) (by assumption) ?_
  rotate_left 1
  · (intro w hSw; (try dsimp only at hSw); go_simp; try with_reducible rfl)
  try simp (maxSteps := 10000000) only [List.getElem_toArray, List.getElem_cons_succ, List.getElem_cons_zero, Act.put, List.setIfInBounds_toArray, List.set_cons_zero, List.set_cons_succ]
  refine wpAnyH_take (i := 25) (oi := _) (v := ?_) rfl (by kernel_rfl) (by kernel_rfl) (by kernel_rfl) (fun _ _ _ h => h) (Or.inl ⟨by rfl, ?_⟩) (by assumption) ?_
  rotate_left 1
  · (intro w hSw; (try dsimp only at hSw); go_simp; try with_reducible rfl)
  try simp (maxSteps := 10000000) only [List.getElem_toArray, List.getElem_cons_succ, List.getElem_cons_zero, Act.put, List.setIfInBounds_toArray, List.set_cons_zero, List.set_cons_succ]
  refine wpAnyH_take (i := 26) (oi := _) (v := ?_) rfl (by kernel_rfl) (by kernel_rfl) (by kernel_rfl) (fun _ _ _ h => h) (Or.inl ⟨by rfl, ?_⟩) (by assumption) ?_
  rotate_left 1
  · (intro w hSw; (try dsimp only at hSw); go_simp; try with_reducible rfl)
  try simp (maxSteps := 10000000) only [List.getElem_toArray, List.getElem_cons_succ, List.getElem_cons_zero, Act.put, List.setIfInBounds_toArray, List.set_cons_zero, List.set_cons_succ]
  refine wpAnyH_take (i := 27) (oi := _) (v := ?_) rfl (by kernel_rfl) (by kernel_rfl) (by kernel_rfl) (fun _ _ _ h => h) (Or.inl ⟨by rfl, ?_⟩) (by assumption) ?_
  rotate_left 1
  · (intro w hSw; (try dsimp only at hSw); go_simp; try with_reducible rfl)
  try simp (maxSteps := 10000000) only [List.getElem_toArray, List.getElem_cons_succ, List.getElem_cons_zero, Act.put, List.setIfInBounds_toArray, List.set_cons_zero, List.set_cons_succ]
  refine wpAnyH_take (i := 28) (oi := _) (v := ?_) rfl (by kernel_rfl) (by kernel_rfl) (by kernel_rfl) (fun _ _ _ h => h) (Or.inl ⟨by rfl, ?_⟩) (by assumption) ?_
  rotate_left 1
  · (intro w hSw; (try dsimp only at hSw); go_simp; try with_reducible rfl)
  try simp (maxSteps := 10000000) only [List.getElem_toArray, List.getElem_cons_succ, List.getElem_cons_zero, Act.put, List.setIfInBounds_toArray, List.set_cons_zero, List.set_cons_succ]
  refine wpAnyH_ready (rs := [29]) (by kernel_rfl) (by simp) ?_
  refine AllReadyH.cons rfl (fun K hK => ?_) AllReadyH.nil
  go_simp
  refine (rnorm_c _ X 64 _ (by omega) (hNX.out _ d17)).mono ?_
  rintro e q29 ⟨b29, o29, n29, c29, rfl, hC29, r29⟩
  have d29 : Below V.heap.size V q29 := below_and d17 (Nat.le_refl _) r29
  try go_simp
  refine hK.out _ _ ?_ (fun hHeld => ?_)
  · exact hS.out _ (by assumption)
  clear hK K
  try simp (maxSteps := 10000000) only [List.getElem_toArray, List.getElem_cons_succ, List.getElem_cons_zero, Act.put, List.setIfInBounds_toArray, List.set_cons_zero, List.set_cons_succ]
  refine wpAnyH_ready (rs := [30]) (by kernel_rfl) (by simp) ?_
  refine AllReadyH.cons rfl (fun K hK => ?_) AllReadyH.nil
  go_simp
  refine (sameNum_w _ _ X 64 _ (by omega) (hCn.out _ d29) hC29).mono ?_
  rintro e q30 ⟨rfl, r30⟩
  have d30 : Below V.heap.size V q30 := below_and d29 (Nat.le_refl _) r30
  try go_simp
  refine hK.out _ _ ?_ (fun hHeld => ?_)
  · exact hS.out _ (by assumption)
  clear hK K
  try simp (maxSteps := 10000000) only [List.getElem_toArray, List.getElem_cons_succ, List.getElem_cons_zero, Act.put, List.setIfInBounds_toArray, List.set_cons_zero, List.set_cons_succ]
  refine wpAnyH_take (i := 31) (oi := _) (v := ?_) rfl (by kernel_rfl) (by kernel_rfl) (by kernel_rfl) (fun _ _ _ h => h) (Or.inl ⟨by rfl, ?_⟩) (by assumption) ?_
  rotate_left 1
  · (intro w hSw; (try dsimp only at hSw); go_simp; try with_reducible rfl)
  try simp (maxSteps := 10000000) only [List.getElem_toArray, List.getElem_cons_succ, List.getElem_cons_zero, Act.put, List.setIfInBounds_toArray, List.set_cons_zero, List.set_cons_succ]
  refine wpAnyH_take (i := 32) (oi := _) (v := ?_) rfl (by kernel_rfl) (by kernel_rfl) (by kernel_rfl) (fun _ _ _ h => h) (Or.inl ⟨by rfl, ?_⟩) (by assumption) ?_
  rotate_left 1
  · (intro w hSw; (try dsimp only at hSw); go_simp; try with_reducible rfl)
  try simp (maxSteps := 10000000) only [List.getElem_toArray, List.getElem_cons_succ, List.getElem_cons_zero, Act.put, List.setIfInBounds_toArray, List.set_cons_zero, List.set_cons_succ]
  refine wpAnyH_take (i := 33) (oi := _) (v := ?_) rfl (by kernel_rfl) (by kernel_rfl) (by kernel_rfl) (fun _ _ _ h => h) (Or.inl ⟨by rfl, ?_⟩) (by assumption) ?_
  rotate_left 1
  · (intro w hSw; (try dsimp only at hSw); go_simp; try with_reducible rfl)
  try simp (maxSteps := 10000000) only [List.getElem_toArray, List.getElem_cons_succ, List.getElem_cons_zero, Act.put, List.setIfInBounds_toArray, List.set_cons_zero, List.set_cons_succ]
  refine wpAnyH_take (i := 35) (oi := _) (v := ?_) rfl (by kernel_rfl) (by kernel_rfl) (by kernel_rfl) (fun _ _ _ h => h) (Or.inl ⟨by rfl, ?_⟩) (by assumption) ?_
  rotate_left 1
  · (intro w hSw; (try dsimp only at hSw); go_simp; try with_reducible rfl)
  try simp (maxSteps := 10000000) only [List.getElem_toArray, List.getElem_cons_succ, List.getElem_cons_zero, Act.put, List.setIfInBounds_toArray, List.set_cons_zero, List.set_cons_succ]
  refine wpAnyH_take (i := 36) (oi := _) (v := ?_) rfl (by kernel_rfl) (by kernel_rfl) (by kernel_rfl) (fun _ _ _ h => h) (Or.inl ⟨by rfl, ?_⟩) (by assumption) ?_
  rotate_left 1
  · (intro w hSw; (try dsimp only at hSw); go_simp; try with_reducible rfl)
  try simp (maxSteps := 10000000) only [List.getElem_toArray, List.getElem_cons_succ, List.getElem_cons_zero, Act.put, List.setIfInBounds_toArray, List.set_cons_zero, List.set_cons_succ]
  refine wpAnyH_ready (rs := [34]) (by kernel_rfl) (by simp) ?_
  refine AllReadyH.cons rfl (fun K hK => ?_) AllReadyH.nil
  go_simp
  refine (Bin_w bs obb cbb _ hcbb (by omega) (hBv.out _ d30)).mono ?_
  rintro e q34 ⟨v34, rfl, hV34, r34⟩
  have d34 : Below V.heap.size V q34 := below_and d30 (Nat.le_refl _) r34
  have iB34 := tv_low hV34
  obtain ⟨uk, uneg, uod, uld, ucd, unm, un, uol, ull, ucl, uob, ulb, ucb, rfl⟩ := hV34.form
  clear hV34
  try go_simp
  refine hK.out _ _ ?_ (fun hHeld => ?_)
  · exact hS.out _ (by assumption)
  clear hK K
  try simp (maxSteps := 10000000) only [List.getElem_toArray, List.getElem_cons_succ, List.getElem_cons_zero, Act.put, List.setIfInBounds_toArray, List.set_cons_zero, List.set_cons_succ]
  refine wpAnyH_ready (rs := [37]) (by kernel_rfl) (by simp) ?_
  refine AllReadyH.cons rfl (fun K hK => ?_) AllReadyH.nil
  go_simp
  refine (rSame_w (binT bs) (binT bs) _ _ _ (ok_bin (by omega)) (ok_bin (by omega)) iB34 (tv_bin (hBv.out _ d34) hcbb) (hTa.out _ d34)).mono ?_
  rw [cT_refl]
  rintro e q37 ⟨rfl, r37⟩
  have d37 : Below V.heap.size V q37 := below_and d34 (Nat.le_refl _) r37
  try go_simp
  refine hK.out _ _ ?_ (fun hHeld => ?_)
  · exact hS.out _ (by assumption)
  clear hK K
  try simp (maxSteps := 10000000) only [List.getElem_toArray, List.getElem_cons_succ, List.getElem_cons_zero, Act.put, List.setIfInBounds_toArray, List.set_cons_zero, List.set_cons_succ]
  refine wpAnyH_take (i := 38) (oi := _) (v := ?_) rfl (by kernel_rfl) (by kernel_rfl) (by kernel_rfl) (fun _ _ _ h => h) (Or.inl ⟨by rfl, ?_⟩) (by assumption) ?_
  rotate_left 1
  · (intro w hSw; (try dsimp only at hSw); go_simp; try with_reducible rfl)
  try simp (maxSteps := 10000000) only [List.getElem_toArray, List.getElem_cons_succ, List.getElem_cons_zero, Act.put, List.setIfInBounds_toArray, List.set_cons_zero, List.set_cons_succ]
  refine wpAnyH_take (i := 39) (oi := _) (v := ?_) rfl (by kernel_rfl) (by kernel_rfl) (by kernel_rfl) (fun _ _ _ h => h) (Or.inl ⟨by rfl, ?_⟩) (by assumption) ?_
  rotate_left 1
  · (intro w hSw; (try dsimp only at hSw); go_simp; try with_reducible rfl)
  try simp (maxSteps := 10000000) only [List.getElem_toArray, List.getElem_cons_succ, List.getElem_cons_zero, Act.put, List.setIfInBounds_toArray, List.set_cons_zero, List.set_cons_succ]
  refine wpAnyH_done (by kernel_rfl) ?_ _
  go_wp2
  go_ret
  exact ⟨rfl, below_and HB.out (by omega) d37⟩
end Go.Proofs.YtgaecjocolihjabDoor.termMakes
