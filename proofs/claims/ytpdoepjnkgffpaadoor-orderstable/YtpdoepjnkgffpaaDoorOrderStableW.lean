/- OrderStable, walked. -/
import Derived.Test.YtpdoepjnkgffpaaDoorSortRot
namespace Go.Proofs.YtpdoepjnkgffpaaDoor.orderStable
open Go.ChangeShapes Go.WideShapes Go.ChangeAt Go.ChangeMaps Go.RowKit Go.Shelf
set_option linter.unusedSimpArgs false
set_option linter.unusedVariables false
set_option maxRecDepth 2000
set_option maxHeartbeats 4000000 in
set_option maxRecDepth 8000 in
theorem walk {H : Type} (enc : TypeId × Value → H) (base : Nat) (w : World) (v0 v1 : Value) (d0 d1 : DataW H) (p0 p1 : List MemPlace)
    (o0 : Value.okWide Tryd.prog w .any base 22 v0) (h0 : DataW.Trod enc Tryd.prog w 0 (fun _ => true) true 22 v0 d0 p0)
    (o1 : Value.okWide Tryd.prog w .any base 5 v1) (h1 : DataW.Trod enc Tryd.prog w 0 (fun _ => true) true 5 v1 d1 p1)
    (hT : Tabs w) :
    Calls Tryd.prog 3 #[v0, v1] w fun e w' => e = .returned (.bool true) ∧ Below w.heap.size w w' := by
  obtain ⟨o, l, c, rfl, hR0, hlc⟩ := open_terms o0 h0
  clear o0 h0
  obtain ⟨z, rfl, rfl, rfl, hz⟩ := open_int Tryd.underlying5 o1 h1
  clear o1 h1
  have hz01 : 0 ≤ z ∧ z < 256 := by simp [Lit.wf, IntKind.min, IntKind.max, IntKind.bits, IntKind.signed] at hz; omega
  obtain ⟨zn, rfl⟩ := Int.eq_ofNat_of_zero_le hz01.1
  go_enter Tryd.func3, Tryd.ntmps3
  go_wp2_with fail
  refine (awake6_w _ hT).mono ?_
  rintro e w1 ⟨rfl, B1⟩
  have hR1 := tr_below hR0 B1
  go_wp2_with fail
  refine (Rooms_w 20 (by omega) l o c _ hR1 (hT.below B1)).mono ?_
  rintro e w2 ⟨rfl, b2⟩
  have B2 := below_and B1 (Nat.le_refl _) b2
  have hR2 := tr_below hR1 b2
  obtain ⟨bb, hbb⟩ : ∃ bb, (decide (l.length ≤ 20) && l.all okRow) = bb := ⟨_, rfl⟩
  rw [hbb]
  cases bb with
  | false =>
    clear hbb
    go_wp2
    go_ret
    exact ⟨rfl, B2⟩
  | true =>
  rw [Bool.and_eq_true] at hbb
  have hl20 : l.length ≤ 20 := of_decide_eq_true hbb.1
  have Hf := hid (rooms_all hR2 hbb.2)
  have HT := hid (fun w' (hk : Below w.heap.size w w') => hT.below hk)
  clear hbb hR0 hR1 B1 b2 hT
  by_cases hl0 : l.length = 0
  · obtain rfl : l = [] := List.eq_nil_of_length_eq_zero hl0
    simp only [List.length_nil] at *
    go_wp2_with fail
    refine (Sort_o [] o c _ hl20 hR2 Hf.out (HT.out _ B2)).mono ?_
    rintro e w3 ⟨g, c', rfl, _, hX3, b3⟩
    have B3 := below_and B2 (Nat.le_refl _) b3
    have hR3 := tr_below hR2 b3
    clear B2 hR2 b3 hz hz01
    cases o with
    | none =>
      have hV3 : Below w3.heap.size w3 w3.drew := (Below.refl _ _).drew
      have hTn : TR (Low w3.drew) w3.drew [] none := by unfold TR; trivial
      obtain ⟨va, wa, vb, wb, hra, hrb, ob, cb, rfl, hTb, ba, bb⟩ := ap_two w3.drew _ c [] _ c [] (tr_below hR3 hV3) (tr_below hR3 hV3) (by decide) (by decide)
      simp only [List.length_nil, List.append_nil, Nat.add_zero] at hra hrb hTb
      have BV : Below w.heap.size w w3.drew := B3.drew
      have Bb := below_and BV (Nat.le_refl _) bb
      have HS2 := hid (Sort_o [] ob cb wb (by decide) hTb Hf.out (HT.out _ Bb))
      have hXV := tr_below hX3 hV3
      have his : isort [] = [] := rfl
      rw [his] at hXV HS2
      clear hX3 hR3 hTb hV3 B3 hTn
      simp only [List.length_nil] at HS2
      go_wp2_with fail
      refine wp_region_held_drew (S := fun _ => True) (by kernel_rfl) trivial (fun hHeld => ?_)
      generalize w3.drew = V at *
      refine wpAnyH_take (i := 1) (oi := _) (v := ?_) rfl (by kernel_rfl) (by kernel_rfl) (by kernel_rfl) (fun _ _ _ h => h) (Or.inl ⟨by rfl, ?_⟩) (by assumption) ?_
      rotate_left 1
      · (intro w hSw; (try dsimp only at hSw); go_simp; try with_reducible rfl)
      try simp (maxSteps := 10000000) only [List.getElem_toArray, List.getElem_cons_succ, List.getElem_cons_zero, Act.put, List.setIfInBounds_toArray, List.set_cons_zero, List.set_cons_succ]
      refine wpAnyH_take (i := 2) (oi := _) (v := ?_) rfl (by kernel_rfl) (by kernel_rfl) (by kernel_rfl) (fun _ _ _ h => h) (Or.inl ⟨by rfl, ?_⟩) (by assumption) ?_
      rotate_left 1
      · (intro w hSw; (try dsimp only at hSw); go_simp; try with_reducible rfl)
      try simp (maxSteps := 10000000) only [List.getElem_toArray, List.getElem_cons_succ, List.getElem_cons_zero, Act.put, List.setIfInBounds_toArray, List.set_cons_zero, List.set_cons_succ]
      refine wpAnyH_take (i := 3) (oi := _) (v := ?_) rfl (by kernel_rfl) (by kernel_rfl) (by kernel_rfl) (fun _ _ _ h => h) (Or.inl ⟨by rfl, ?_⟩) (by assumption) ?_
      rotate_left 1
      · (intro w hSw; (try dsimp only at hSw); go_simp; try with_reducible rfl)
      try simp (maxSteps := 10000000) only [List.getElem_toArray, List.getElem_cons_succ, List.getElem_cons_zero, Act.put, List.setIfInBounds_toArray, List.set_cons_zero, List.set_cons_succ]
      refine wpAnyH_take (i := 5) (oi := _) (v := ?_) rfl (by kernel_rfl) (by kernel_rfl) (by kernel_rfl) (fun _ _ _ h => h) (Or.inl ⟨by rfl, ?_⟩) (by assumption) ?_
      rotate_left 1
      · (intro w hSw; (try dsimp only at hSw); go_simp; try with_reducible rfl)
      try simp (maxSteps := 10000000) only [List.getElem_toArray, List.getElem_cons_succ, List.getElem_cons_zero, Act.put, List.setIfInBounds_toArray, List.set_cons_zero, List.set_cons_succ]
      refine wpAnyH_take (i := 6) (oi := _) (v := ?_) rfl (by kernel_rfl) (by kernel_rfl) (by kernel_rfl) (fun _ _ _ h => h) (Or.inl ⟨by rfl, ?_⟩) (by assumption) ?_
      rotate_left 1
      · (intro w hSw; (try dsimp only at hSw); go_simp; try with_reducible rfl)
      try simp (maxSteps := 10000000) only [List.getElem_toArray, List.getElem_cons_succ, List.getElem_cons_zero, Act.put, List.setIfInBounds_toArray, List.set_cons_zero, List.set_cons_succ]
      refine wpAnyH_take (i := 7) (oi := _) (v := ?_) rfl (by kernel_rfl) (by kernel_rfl) (by kernel_rfl) (fun _ _ _ h => h) (Or.inl ⟨by rfl, ?_⟩) (by assumption) ?_
      rotate_left 1
      · (intro w hSw; (try dsimp only at hSw); go_simp; try with_reducible rfl)
      try simp (maxSteps := 10000000) only [List.getElem_toArray, List.getElem_cons_succ, List.getElem_cons_zero, Act.put, List.setIfInBounds_toArray, List.set_cons_zero, List.set_cons_succ]
      refine wpAnyH_ready (rs := [0]) (by kernel_rfl) (by simp) ?_
      refine AllReadyH.cons rfl (fun K hK => ?_) AllReadyH.nil
      go_simp
      skip
      try go_simp
      refine hK.out _ _ ?_ (fun hHeld => ?_)
      · first | exact hS.out _ (by assumption) | trivial
      clear hK K
      try simp (maxSteps := 10000000) only [List.getElem_toArray, List.getElem_cons_succ, List.getElem_cons_zero, Act.put, List.setIfInBounds_toArray, List.set_cons_zero, List.set_cons_succ]
      refine wpAnyH_ready (rs := [4]) (by kernel_rfl) (by simp) ?_
      refine AllReadyH.cons rfl (fun K hK => ?_) AllReadyH.nil
      refine step_append_run rfl _ _ 22 rfl _ _ va wa rfl rfl hra ?_
      refine hK.out _ _ ?_ (fun hHeld => ?_)
      · first | exact hS.out _ (by assumption) | trivial
      clear hK K
      try simp (maxSteps := 10000000) only [List.getElem_toArray, List.getElem_cons_succ, List.getElem_cons_zero, Act.put, List.setIfInBounds_toArray, List.set_cons_zero, List.set_cons_succ]
      refine wpAnyH_ready (rs := [8]) (by kernel_rfl) (by simp) ?_
      refine AllReadyH.cons rfl (fun K hK => ?_) AllReadyH.nil
      refine step_append_run rfl _ _ 22 rfl _ _ (.slice ob 0 cb) wb rfl rfl hrb ?_
      refine hK.out _ _ ?_ (fun hHeld => ?_)
      · first | exact hS.out _ (by assumption) | trivial
      clear hK K
      try simp (maxSteps := 10000000) only [List.getElem_toArray, List.getElem_cons_succ, List.getElem_cons_zero, Act.put, List.setIfInBounds_toArray, List.set_cons_zero, List.set_cons_succ]
      refine wpAnyH_ready (rs := [9]) (by kernel_rfl) (by simp) ?_
      refine AllReadyH.cons rfl (fun K hK => ?_) AllReadyH.nil
      go_simp
      refine HS2.out.mono ?_
      rintro e w5 ⟨g5, c5, rfl, _, hY5, b5⟩
      try go_simp
      refine hK.out _ _ ?_ (fun hHeld => ?_)
      · first | exact hS.out _ (by assumption) | trivial
      clear hK K
      try simp (maxSteps := 10000000) only [List.getElem_toArray, List.getElem_cons_succ, List.getElem_cons_zero, Act.put, List.setIfInBounds_toArray, List.set_cons_zero, List.set_cons_succ]
      refine wpAnyH_take (i := 10) (oi := _) (v := ?_) rfl (by kernel_rfl) (by kernel_rfl) (by kernel_rfl) (fun _ _ _ h => h) (Or.inl ⟨by rfl, ?_⟩) (by assumption) ?_
      rotate_left 1
      · (intro w hSw; (try dsimp only at hSw); go_simp; try with_reducible rfl)
      try simp (maxSteps := 10000000) only [List.getElem_toArray, List.getElem_cons_succ, List.getElem_cons_zero, Act.put, List.setIfInBounds_toArray, List.set_cons_zero, List.set_cons_succ]
      refine wpAnyH_done (by kernel_rfl) ?_ _
      have B5 := below_and Bb (Nat.le_refl _) b5
      have hX5 := tr_below hXV (below_and bb (Nat.le_refl _) b5)
      have hc1 := rSameRow_w [] [] (some ⟨g, 0, none⟩) (some ⟨g5, 0, none⟩) c' c5 w5 (by decide) (by decide) (by simp [partsL]) (by simp [partsL]) hX5 hY5 (HT.out _ B5)
      have hss : sameL [] [] = true := rfl
      rw [hss] at hc1
      simp only [List.length_nil] at hc1
      clear hra hrb HS2 hXV ba bb b5 hHeld BV Bb hY5
      go_wp2_with fail
      refine hc1.mono ?_
      rintro e w6 ⟨rfl, b6⟩
      have B6 := below_and B5 (Nat.le_refl _) b6
      have hX6 := tr_below hX5 b6
      have hc2 := Sort_o [] (some ⟨g, 0, none⟩) c' w6 (by decide) hX6 Hf.out (HT.out _ B6)
      rw [his] at hc2
      simp only [List.length_nil] at hc2
      clear hc1 B5 b6 hX5
      go_wp2_with fail
      refine hc2.mono ?_
      rintro e w7 ⟨g7, c7, rfl, _, hY7, b7⟩
      have B7 := below_and B6 (Nat.le_refl _) b7
      have hX7 := tr_below hX6 b7
      have hc3 := rSameRow_w [] [] (some ⟨g7, 0, none⟩) (some ⟨g, 0, none⟩) c7 c' w7 (by decide) (by decide) (by simp [partsL]) (by simp [partsL]) hY7 hX7 (HT.out _ B7)
      rw [hss] at hc3
      simp only [List.length_nil] at hc3
      clear hc2 B6 b7 hX6 hY7
      go_wp2_with fail
      refine hc3.mono ?_
      rintro e w8 ⟨rfl, b8⟩
      have B8 := below_and B7 (Nat.le_refl _) b8
      clear hc3 B7 b8 hX7
      go_wp2_with fail
      go_loopg [8] 0 (fun t v8 wr => t = 0 ∧ v8 = .int .i64 0 ∧ wr = w8)
      case atStart => exact ⟨rfl, rfl, rfl⟩
      case round =>
        obtain ⟨rfl, rfl, rfl⟩ := hrel
        go_wp2
        go_ret
        exact ⟨rfl, B8⟩
    | some pa =>
      have hnc : (0 : Int) ≤ (c : Int) := by omega
      have hV3 : Below w3.heap.size w3 w3.drew := (Below.refl _ _).drew
      have hTn : TR (Low w3.drew) w3.drew [] none := by unfold TR; trivial
      obtain ⟨va, wa, vb, wb, hra, hrb, ob, cb, rfl, hTb, ba, bb⟩ := ap_two w3.drew _ c [] _ c [] (tr_below hR3 hV3) (tr_below hR3 hV3) (by decide) (by decide)
      simp only [List.length_nil, List.append_nil, Nat.add_zero] at hra hrb hTb
      have BV : Below w.heap.size w w3.drew := B3.drew
      have Bb := below_and BV (Nat.le_refl _) bb
      have HS2 := hid (Sort_o [] ob cb wb (by decide) hTb Hf.out (HT.out _ Bb))
      have hXV := tr_below hX3 hV3
      have his : isort [] = [] := rfl
      rw [his] at hXV HS2
      clear hX3 hR3 hTb hV3 B3 hTn
      simp only [List.length_nil] at HS2
      go_wp2_with fail
      refine wp_region_held_drew (S := fun _ => True) (by kernel_rfl) trivial (fun hHeld => ?_)
      generalize w3.drew = V at *
      refine wpAnyH_take (i := 1) (oi := _) (v := ?_) rfl (by kernel_rfl) (by kernel_rfl) (by kernel_rfl) (fun _ _ _ h => h) (Or.inl ⟨by rfl, ?_⟩) (by assumption) ?_
      rotate_left 1
      · (intro w hSw; (try dsimp only at hSw); go_simp; try with_reducible rfl)
      try simp (maxSteps := 10000000) only [List.getElem_toArray, List.getElem_cons_succ, List.getElem_cons_zero, Act.put, List.setIfInBounds_toArray, List.set_cons_zero, List.set_cons_succ]
      refine wpAnyH_take (i := 2) (oi := _) (v := ?_) rfl (by kernel_rfl) (by kernel_rfl) (by kernel_rfl) (fun _ _ _ h => h) (Or.inl ⟨by rfl, ?_⟩) (by assumption) ?_
      rotate_left 1
      · (intro w hSw; (try dsimp only at hSw); go_simp; try with_reducible rfl)
      try simp (maxSteps := 10000000) only [List.getElem_toArray, List.getElem_cons_succ, List.getElem_cons_zero, Act.put, List.setIfInBounds_toArray, List.set_cons_zero, List.set_cons_succ]
      refine wpAnyH_take (i := 3) (oi := _) (v := ?_) rfl (by kernel_rfl) (by kernel_rfl) (by kernel_rfl) (fun _ _ _ h => h) (Or.inl ⟨by rfl, ?_⟩) (by assumption) ?_
      rotate_left 1
      · (intro w hSw; (try dsimp only at hSw); go_simp; try with_reducible rfl)
      try simp (maxSteps := 10000000) only [List.getElem_toArray, List.getElem_cons_succ, List.getElem_cons_zero, Act.put, List.setIfInBounds_toArray, List.set_cons_zero, List.set_cons_succ]
      refine wpAnyH_take (i := 5) (oi := _) (v := ?_) rfl (by kernel_rfl) (by kernel_rfl) (by kernel_rfl) (fun _ _ _ h => h) (Or.inl ⟨by rfl, ?_⟩) (by assumption) ?_
      rotate_left 1
      · (intro w hSw; (try dsimp only at hSw); go_simp; try with_reducible rfl)
      try simp (maxSteps := 10000000) only [List.getElem_toArray, List.getElem_cons_succ, List.getElem_cons_zero, Act.put, List.setIfInBounds_toArray, List.set_cons_zero, List.set_cons_succ]
      refine wpAnyH_take (i := 6) (oi := _) (v := ?_) rfl (by kernel_rfl) (by kernel_rfl) (by kernel_rfl) (fun _ _ _ h => h) (Or.inl ⟨by rfl, ?_⟩) (by assumption) ?_
      rotate_left 1
      · (intro w hSw; (try dsimp only at hSw); go_simp; try with_reducible rfl)
      try simp (maxSteps := 10000000) only [List.getElem_toArray, List.getElem_cons_succ, List.getElem_cons_zero, Act.put, List.setIfInBounds_toArray, List.set_cons_zero, List.set_cons_succ]
      refine wpAnyH_take (i := 7) (oi := _) (v := ?_) rfl (by kernel_rfl) (by kernel_rfl) (by kernel_rfl) (fun _ _ _ h => h) (Or.inl ⟨by rfl, ?_⟩) (by assumption) ?_
      rotate_left 1
      · (intro w hSw; (try dsimp only at hSw); go_simp; try with_reducible rfl)
      try simp (maxSteps := 10000000) only [List.getElem_toArray, List.getElem_cons_succ, List.getElem_cons_zero, Act.put, List.setIfInBounds_toArray, List.set_cons_zero, List.set_cons_succ]
      refine wpAnyH_ready (rs := [0]) (by kernel_rfl) (by simp) ?_
      refine AllReadyH.cons rfl (fun K hK => ?_) AllReadyH.nil
      go_simp
      skip
      try go_simp
      refine hK.out _ _ ?_ (fun hHeld => ?_)
      · first | exact hS.out _ (by assumption) | trivial
      clear hK K
      try simp (maxSteps := 10000000) only [List.getElem_toArray, List.getElem_cons_succ, List.getElem_cons_zero, Act.put, List.setIfInBounds_toArray, List.set_cons_zero, List.set_cons_succ]
      refine wpAnyH_ready (rs := [4]) (by kernel_rfl) (by simp) ?_
      refine AllReadyH.cons rfl (fun K hK => ?_) AllReadyH.nil
      refine step_append_run rfl _ _ 22 rfl _ _ va wa rfl rfl hra ?_
      refine hK.out _ _ ?_ (fun hHeld => ?_)
      · first | exact hS.out _ (by assumption) | trivial
      clear hK K
      try simp (maxSteps := 10000000) only [List.getElem_toArray, List.getElem_cons_succ, List.getElem_cons_zero, Act.put, List.setIfInBounds_toArray, List.set_cons_zero, List.set_cons_succ]
      refine wpAnyH_ready (rs := [8]) (by kernel_rfl) (by simp) ?_
      refine AllReadyH.cons rfl (fun K hK => ?_) AllReadyH.nil
      refine step_append_run rfl _ _ 22 rfl _ _ (.slice ob 0 cb) wb rfl rfl hrb ?_
      refine hK.out _ _ ?_ (fun hHeld => ?_)
      · first | exact hS.out _ (by assumption) | trivial
      clear hK K
      try simp (maxSteps := 10000000) only [List.getElem_toArray, List.getElem_cons_succ, List.getElem_cons_zero, Act.put, List.setIfInBounds_toArray, List.set_cons_zero, List.set_cons_succ]
      refine wpAnyH_ready (rs := [9]) (by kernel_rfl) (by simp) ?_
      refine AllReadyH.cons rfl (fun K hK => ?_) AllReadyH.nil
      go_simp
      refine HS2.out.mono ?_
      rintro e w5 ⟨g5, c5, rfl, _, hY5, b5⟩
      try go_simp
      refine hK.out _ _ ?_ (fun hHeld => ?_)
      · first | exact hS.out _ (by assumption) | trivial
      clear hK K
      try simp (maxSteps := 10000000) only [List.getElem_toArray, List.getElem_cons_succ, List.getElem_cons_zero, Act.put, List.setIfInBounds_toArray, List.set_cons_zero, List.set_cons_succ]
      refine wpAnyH_take (i := 10) (oi := _) (v := ?_) rfl (by kernel_rfl) (by kernel_rfl) (by kernel_rfl) (fun _ _ _ h => h) (Or.inl ⟨by rfl, ?_⟩) (by assumption) ?_
      rotate_left 1
      · (intro w hSw; (try dsimp only at hSw); go_simp; try with_reducible rfl)
      try simp (maxSteps := 10000000) only [List.getElem_toArray, List.getElem_cons_succ, List.getElem_cons_zero, Act.put, List.setIfInBounds_toArray, List.set_cons_zero, List.set_cons_succ]
      refine wpAnyH_done (by kernel_rfl) ?_ _
      have B5 := below_and Bb (Nat.le_refl _) b5
      have hX5 := tr_below hXV (below_and bb (Nat.le_refl _) b5)
      have hc1 := rSameRow_w [] [] (some ⟨g, 0, none⟩) (some ⟨g5, 0, none⟩) c' c5 w5 (by decide) (by decide) (by simp [partsL]) (by simp [partsL]) hX5 hY5 (HT.out _ B5)
      have hss : sameL [] [] = true := rfl
      rw [hss] at hc1
      simp only [List.length_nil] at hc1
      clear hra hrb HS2 hXV ba bb b5 hHeld BV Bb hY5
      go_wp2_with fail
      refine hc1.mono ?_
      rintro e w6 ⟨rfl, b6⟩
      have B6 := below_and B5 (Nat.le_refl _) b6
      have hX6 := tr_below hX5 b6
      have hc2 := Sort_o [] (some ⟨g, 0, none⟩) c' w6 (by decide) hX6 Hf.out (HT.out _ B6)
      rw [his] at hc2
      simp only [List.length_nil] at hc2
      clear hc1 B5 b6 hX5
      go_wp2_with fail
      refine hc2.mono ?_
      rintro e w7 ⟨g7, c7, rfl, _, hY7, b7⟩
      have B7 := below_and B6 (Nat.le_refl _) b7
      have hX7 := tr_below hX6 b7
      have hc3 := rSameRow_w [] [] (some ⟨g7, 0, none⟩) (some ⟨g, 0, none⟩) c7 c' w7 (by decide) (by decide) (by simp [partsL]) (by simp [partsL]) hY7 hX7 (HT.out _ B7)
      rw [hss] at hc3
      simp only [List.length_nil] at hc3
      clear hc2 B6 b7 hX6 hY7
      go_wp2_with fail
      refine hc3.mono ?_
      rintro e w8 ⟨rfl, b8⟩
      have B8 := below_and B7 (Nat.le_refl _) b8
      clear hc3 B7 b8 hX7
      go_wp2_with fail
      go_loopg [8] 0 (fun t v8 wr => t = 0 ∧ v8 = .int .i64 0 ∧ wr = w8)
      case atStart => exact ⟨rfl, rfl, rfl⟩
      case round =>
        obtain ⟨rfl, rfl, rfl⟩ := hrel
        go_wp2
        go_ret
        exact ⟨rfl, B8⟩
  have hl1 : (0 : Int) < (l.length : Int) := by omega
  obtain ⟨k, hk, hkl'⟩ : ∃ k : Nat, (zn : Int) % (l.length : Int) = (k : Int) ∧ k < l.length := ⟨zn % l.length, by simp, Nat.mod_lt _ (by omega)⟩
  have hkl : k ≤ l.length := by omega
  go_wp2_with fail
  refine (Sort_o l o c _ hl20 hR2 Hf.out (HT.out _ B2)).mono ?_
  rintro e w3 ⟨g, c', rfl, _, hX3, b3⟩
  have B3 := below_and B2 (Nat.le_refl _) b3
  have hR3 := tr_below hR2 b3
  clear B2 hR2 b3
  rw [hk]
  clear hk hz01 hz
  obtain ⟨pa, rfl⟩ : ∃ pa, o = some pa := by
    cases l with
    | nil => exact absurd rfl hl0
    | cons t l => unfold TR at hR3; obtain ⟨a, _, e, _⟩ := hR3; exact ⟨a, e⟩
  have hkz : (k : Int) ≤ (l.length : Int) := by omega
  have hkc : (k : Int) ≤ (c : Int) := by omega
  have hnc : (l.length : Int) ≤ (c : Int) := by omega
  have hk0 : (0 : Int) ≤ (k : Int) := by omega
  obtain ⟨oK, hoK0, hTK⟩ := slice_row hR3 hkl hlc
  have hoK := hoK0 _ rfl
  have hTt := tr_take hR3 k
  have hV3 : Below w3.heap.size w3 w3.drew := (Below.refl _ _).drew
  have hL1 : (l.drop k).length = l.length - k := by simp
  have hL2 : (l.take k).length = k := by simp; omega
  obtain ⟨va, wa, vb, wb, hra, hrb, ob, cb, rfl, hTb, ba, bb⟩ := ap_two w3.drew oK (c - k) (l.drop k) _ c (l.take k) (tr_below hTK hV3) (tr_below hTt hV3) (by omega) (by omega)
  have hL3 : (l.drop k).length + (l.take k).length = l.length := by omega
  rw [hL3] at hrb
  rw [hL1] at hra
  rw [hL2] at hrb
  have hL4 : (l.drop k ++ l.take k).length = l.length := by simp; omega
  have BV : Below w.heap.size w w3.drew := B3.drew
  have Bb := below_and BV (Nat.le_refl _) bb
  have HfR := hid (show ∀ t ∈ l.drop k ++ l.take k, OkT t from fun t ht => Hf.out t (by rcases List.mem_append.1 ht with h | h; exact List.mem_of_mem_drop h; exact List.mem_of_mem_take h))
  have HS2 := hid (Sort_o (l.drop k ++ l.take k) ob cb wb (by omega) hTb HfR.out (HT.out _ Bb))
  rw [hL4] at HS2
  have hXV := tr_below hX3 hV3
  have hRV := tr_below hR3 hV3
  clear hX3 hR3 hTK hTt hTb hV3 B3 hL1 hL2 hL3
  go_wp2_with fail
  refine wp_region_held_drew (S := fun _ => True) (by kernel_rfl) trivial (fun hHeld => ?_)
  generalize w3.drew = V at *
  refine wpAnyH_take (i := 1) (oi := _) (v := ?_) rfl (by kernel_rfl) (by kernel_rfl) (by kernel_rfl) (fun _ _ _ h => h) (Or.inl ⟨by rfl, ?_⟩) (by assumption) ?_
  rotate_left 1
  · (intro w hSw; (try dsimp only at hSw); go_simp; try with_reducible rfl)
  try simp (maxSteps := 10000000) only [List.getElem_toArray, List.getElem_cons_succ, List.getElem_cons_zero, Act.put, List.setIfInBounds_toArray, List.set_cons_zero, List.set_cons_succ]
  refine wpAnyH_take (i := 2) (oi := _) (v := ?_) rfl (by kernel_rfl) (by kernel_rfl) (by kernel_rfl) (fun _ _ _ h => h) (Or.inl ⟨by rfl, ?_⟩) (by assumption) ?_
  rotate_left 1
  · (intro w hSw; (try dsimp only at hSw); go_simp; try with_reducible rfl)
  try simp (maxSteps := 10000000) only [List.getElem_toArray, List.getElem_cons_succ, List.getElem_cons_zero, Act.put, List.setIfInBounds_toArray, List.set_cons_zero, List.set_cons_succ]
  refine wpAnyH_take (i := 3) (oi := _) (v := ?_) rfl (by kernel_rfl) (by kernel_rfl) (by kernel_rfl) (fun _ _ _ h => h) (Or.inl ⟨by rfl, ?_⟩) (by assumption) ?_
  rotate_left 1
  · (intro w hSw; (try dsimp only at hSw); go_simp; try with_reducible rfl)
  try simp (maxSteps := 10000000) only [List.getElem_toArray, List.getElem_cons_succ, List.getElem_cons_zero, Act.put, List.setIfInBounds_toArray, List.set_cons_zero, List.set_cons_succ]
  refine wpAnyH_take (i := 5) (oi := _) (v := ?_) rfl (by kernel_rfl) (by kernel_rfl) (by kernel_rfl) (fun _ _ _ h => h) (Or.inl ⟨by rfl, ?_⟩) (by assumption) ?_
  rotate_left 1
  · (intro w hSw; (try dsimp only at hSw); go_simp; try with_reducible rfl)
  try simp (maxSteps := 10000000) only [List.getElem_toArray, List.getElem_cons_succ, List.getElem_cons_zero, Act.put, List.setIfInBounds_toArray, List.set_cons_zero, List.set_cons_succ]
  refine wpAnyH_take (i := 6) (oi := _) (v := ?_) rfl (by kernel_rfl) (by kernel_rfl) (by kernel_rfl) (fun _ _ _ h => h) (Or.inl ⟨by rfl, ?_⟩) (by assumption) ?_
  rotate_left 1
  · (intro w hSw; (try dsimp only at hSw); go_simp; try with_reducible rfl)
  try simp (maxSteps := 10000000) only [List.getElem_toArray, List.getElem_cons_succ, List.getElem_cons_zero, Act.put, List.setIfInBounds_toArray, List.set_cons_zero, List.set_cons_succ]
  refine wpAnyH_take (i := 7) (oi := _) (v := ?_) rfl (by kernel_rfl) (by kernel_rfl) (by kernel_rfl) (fun _ _ _ h => h) (Or.inl ⟨by rfl, ?_⟩) (by assumption) ?_
  rotate_left 1
  · (intro w hSw; (try dsimp only at hSw); go_simp; try with_reducible rfl)
  try simp (maxSteps := 10000000) only [List.getElem_toArray, List.getElem_cons_succ, List.getElem_cons_zero, Act.put, List.setIfInBounds_toArray, List.set_cons_zero, List.set_cons_succ]
  refine wpAnyH_ready (rs := [0]) (by kernel_rfl) (by simp) ?_
  refine AllReadyH.cons rfl (fun K hK => ?_) AllReadyH.nil
  go_simp
  skip
  try go_simp
  refine hK.out _ _ ?_ (fun hHeld => ?_)
  · first | exact hS.out _ (by assumption) | trivial
  clear hK K
  try simp (maxSteps := 10000000) only [List.getElem_toArray, List.getElem_cons_succ, List.getElem_cons_zero, Act.put, List.setIfInBounds_toArray, List.set_cons_zero, List.set_cons_succ]
  refine wpAnyH_ready (rs := [4]) (by kernel_rfl) (by simp) ?_
  refine AllReadyH.cons rfl (fun K hK => ?_) AllReadyH.nil
  refine step_append_run rfl _ _ 22 rfl _ _ va wa rfl rfl hra ?_
  refine hK.out _ _ ?_ (fun hHeld => ?_)
  · first | exact hS.out _ (by assumption) | trivial
  clear hK K
  try simp (maxSteps := 10000000) only [List.getElem_toArray, List.getElem_cons_succ, List.getElem_cons_zero, Act.put, List.setIfInBounds_toArray, List.set_cons_zero, List.set_cons_succ]
  refine wpAnyH_ready (rs := [8]) (by kernel_rfl) (by simp) ?_
  refine AllReadyH.cons rfl (fun K hK => ?_) AllReadyH.nil
  refine step_append_run rfl _ _ 22 rfl _ _ (.slice ob l.length cb) wb rfl rfl hrb ?_
  refine hK.out _ _ ?_ (fun hHeld => ?_)
  · first | exact hS.out _ (by assumption) | trivial
  clear hK K
  try simp (maxSteps := 10000000) only [List.getElem_toArray, List.getElem_cons_succ, List.getElem_cons_zero, Act.put, List.setIfInBounds_toArray, List.set_cons_zero, List.set_cons_succ]
  refine wpAnyH_ready (rs := [9]) (by kernel_rfl) (by simp) ?_
  refine AllReadyH.cons rfl (fun K hK => ?_) AllReadyH.nil
  go_simp
  refine HS2.out.mono ?_
  rintro e w5 ⟨g5, c5, rfl, _, hY5, b5⟩
  try go_simp
  refine hK.out _ _ ?_ (fun hHeld => ?_)
  · first | exact hS.out _ (by assumption) | trivial
  clear hK K
  try simp (maxSteps := 10000000) only [List.getElem_toArray, List.getElem_cons_succ, List.getElem_cons_zero, Act.put, List.setIfInBounds_toArray, List.set_cons_zero, List.set_cons_succ]
  refine wpAnyH_take (i := 10) (oi := _) (v := ?_) rfl (by kernel_rfl) (by kernel_rfl) (by kernel_rfl) (fun _ _ _ h => h) (Or.inl ⟨by rfl, ?_⟩) (by assumption) ?_
  rotate_left 1
  · (intro w hSw; (try dsimp only at hSw); go_simp; try with_reducible rfl)
  try simp (maxSteps := 10000000) only [List.getElem_toArray, List.getElem_cons_succ, List.getElem_cons_zero, Act.put, List.setIfInBounds_toArray, List.set_cons_zero, List.set_cons_succ]
  refine wpAnyH_done (by kernel_rfl) ?_ _
  have B5 := below_and Bb (Nat.le_refl _) b5
  have b35 := below_and bb (Nat.le_refl _) b5
  have hX5 := tr_below hXV b35
  have hR5 := tr_below hRV b35
  clear hra hrb HS2 hXV hRV ba bb b5 b35 hHeld BV Bb hoK0
  have hiL := isort_len l
  have hiR := isort_len (l.drop k ++ l.take k)
  rw [hL4] at hiR
  have hws := hid (show sameL (isort l) (isort (l.drop k ++ l.take k)) = true from sameL_of (sameA_of _ _ (okT_wf (okT_sort Hf.out)) (okT_wf (okT_sort HfR.out)) (isort_rises _ (okT_wf Hf.out)) (isort_rises _ (okT_wf HfR.out)) (by rw [hiL, hiR]) (fun t _ => by
    rw [isort_cnt, isort_cnt, cnt_append]
    have := cnt_append (fun x => decide (cT x t ≤ 0)) (l.take k) (l.drop k)
    rw [List.take_append_drop] at this
    omega)))
  have hpx := hid (okT_parts (okT_sort Hf.out))
  have hpy := hid (okT_parts (okT_sort HfR.out))
  have hc1 := rSameRow_w (isort l) (isort (l.drop k ++ l.take k)) (some ⟨g, 0, none⟩) (some ⟨g5, 0, none⟩) c' c5 w5 (by omega) (by omega) hpx.out hpy.out hX5 hY5 (HT.out _ B5)
  rw [hiL, hiR, hws.out] at hc1
  clear hL4 hY5
  have hnn : ((l.length : Int) != (l.length : Int)) = false := by simp
  go_wp2_with fail
  refine hc1.mono ?_
  rintro e w6 ⟨rfl, b6⟩
  have B6 := below_and B5 (Nat.le_refl _) b6
  have hX6 := tr_below hX5 b6
  have hR6 := tr_below hR5 b6
  have hid2 := isort_id (isort l) (isort_rises _ (okT_wf Hf.out))
  have hc2 := Sort_o (isort l) (some ⟨g, 0, none⟩) c' w6 (by omega) hX6 (okT_sort Hf.out) (HT.out _ B6)
  rw [hid2, hiL] at hc2
  clear hc1 B5 b6 hX5 hR5 hws
  go_wp2_with fail
  refine hc2.mono ?_
  rintro e w7 ⟨g7, c7, rfl, _, hY7, b7⟩
  have B7 := below_and B6 (Nat.le_refl _) b7
  have hX7 := tr_below hX6 b7
  have hR7 := tr_below hR6 b7
  have hc3 := rSameRow_w (isort l) (isort l) (some ⟨g7, 0, none⟩) (some ⟨g, 0, none⟩) c7 c' w7 (by omega) (by omega) hpx.out hpx.out hY7 hX7 (HT.out _ B7)
  rw [hiL, sameL_id (okT_wf (okT_sort Hf.out))] at hc3
  clear hc2 B6 b7 hX6 hR6 hid2 hY7
  go_wp2_with fail
  refine hc3.mono ?_
  rintro e w8 ⟨rfl, b8⟩
  have B8 := below_and B7 (Nat.le_refl _) b8
  have hX8 := tr_below hX7 b8
  have hR8 := tr_below hR7 b8
  clear hc3 B7 b8 hX7 hR7 hpx hpy
  have HX := hid hX8
  have HR := hid hR8
  have HI := hid hiL
  clear hX8 hR8 hiL hiR
  go_wp2_with fail
  go_loopg [8] l.length (fun t v8 wr => ∃ i : Nat, t + i = l.length ∧ v8 = .int .i64 (i : Int) ∧ Below w8.heap.size w8 wr)
  case atStart => exact ⟨0, by omega, rfl, Below.refl _ _⟩
  case round =>
    obtain ⟨i, hti, rfl, hbi⟩ := hrel
    by_cases hil : i < l.length
    case neg =>
      have hii : ¬ (i : Int) < (l.length : Int) := by omega
      go_wp2
      go_ret
      exact ⟨rfl, below_and B8 (Nat.le_refl _) hbi⟩
    have hii : (i : Int) < (l.length : Int) := by omega
    obtain ⟨ti, hti'⟩ : ∃ ti, l[i]? = some ti := ⟨l[i], by simp [hil]⟩
    have Hti := hid hti'
    have Hfi := hid (Hf.out ti (List.mem_of_getElem? hti'))
    clear hti'
    go_wp2_with fail
    go_loopg [9, 10, 11] l.length (fun t v9 v10 v11 wr => ∃ j : Nat, t + j = l.length ∧ v9 = .int .i64 (cnt (fun y => cT ti y == 0) (l.take j) : Int) ∧ v10 = .int .i64 (cnt (fun y => cT ti y == 0) ((isort l).take j) : Int) ∧ v11 = .int .i64 (j : Int) ∧ Below w8.heap.size w8 wr)
    case atStart => exact ⟨0, by omega, rfl, rfl, rfl, hbi⟩
    case round =>
      clear hbi
      obtain ⟨j, htj, rfl, rfl, rfl, hbj⟩ := hrel
      by_cases hjl : j < l.length
      case neg =>
        have hjj : ¬ (j : Int) < (l.length : Int) := by omega
        have hcc : cnt (fun y => cT ti y == 0) ((isort l).take j) = cnt (fun y => cT ti y == 0) (l.take j) := by
          have := HI.out
          rw [List.take_of_length_le (by omega), List.take_of_length_le (by omega), isort_cnt]
        rw [hcc]
        generalize cnt (fun y => cT ti y == 0) (l.take j) = N1 at *
        have hnN : ((N1 : Int) != (N1 : Int)) = false := by simp
        clear hcc
        cases i with
        | zero =>
          have hb1 : Below w8.heap.size w8 wr.drew := hbj.drew
          clear hbj
          go_wp2_with fail
          refine wp_region_held_drew (S := fun _ => True) (by kernel_rfl) trivial (fun hHeld => ?_)
          generalize wr.drew = V9 at *
          refine wpAnyH_take (i := 0) (oi := _) (v := ?_) rfl (by kernel_rfl) (by kernel_rfl) (by kernel_rfl) (fun _ _ _ h => h) (Or.inl ⟨by rfl, ?_⟩) (by assumption) ?_
          rotate_left 1
          · (intro w hSw; (try dsimp only at hSw); go_simp; try with_reducible rfl)
          try simp (maxSteps := 10000000) only [List.getElem_toArray, List.getElem_cons_succ, List.getElem_cons_zero, Act.put, List.setIfInBounds_toArray, List.set_cons_zero, List.set_cons_succ]
          refine wpAnyH_take (i := 1) (oi := _) (v := ?_) rfl (by kernel_rfl) (by kernel_rfl) (by kernel_rfl) (fun _ _ _ h => h) (Or.inl ⟨by rfl, ?_⟩) (by assumption) ?_
          rotate_left 1
          · (intro w hSw; (try dsimp only at hSw); go_simp; try with_reducible rfl)
          try simp (maxSteps := 10000000) only [List.getElem_toArray, List.getElem_cons_succ, List.getElem_cons_zero, Act.put, List.setIfInBounds_toArray, List.set_cons_zero, List.set_cons_succ]
          refine wpAnyH_take (i := 2) (oi := _) (v := ?_) rfl (by kernel_rfl) (by kernel_rfl) (by kernel_rfl) (fun _ _ _ h => h) (Or.inl ⟨by rfl, ?_⟩) (by assumption) ?_
          rotate_left 1
          · (intro w hSw; (try dsimp only at hSw); go_simp; try with_reducible rfl)
          try simp (maxSteps := 10000000) only [List.getElem_toArray, List.getElem_cons_succ, List.getElem_cons_zero, Act.put, List.setIfInBounds_toArray, List.set_cons_zero, List.set_cons_succ]
          refine wpAnyH_take (i := 3) (oi := _) (v := ?_) rfl (by kernel_rfl) (by kernel_rfl) (by kernel_rfl) (fun _ _ _ h => h) (Or.inl ⟨by rfl, ?_⟩) (by assumption) ?_
          rotate_left 1
          · (intro w hSw; (try dsimp only at hSw); go_simp; try with_reducible rfl)
          try simp (maxSteps := 10000000) only [List.getElem_toArray, List.getElem_cons_succ, List.getElem_cons_zero, Act.put, List.setIfInBounds_toArray, List.set_cons_zero, List.set_cons_succ]
          refine wpAnyH_take (i := 4) (oi := _) (v := ?_) rfl (by kernel_rfl) (by kernel_rfl) (by kernel_rfl) (fun _ _ _ h => h) (Or.inl ⟨by rfl, ?_⟩) (by assumption) ?_
          rotate_left 1
          · (intro w hSw; (try dsimp only at hSw); go_simp; try with_reducible rfl)
          try simp (maxSteps := 10000000) only [List.getElem_toArray, List.getElem_cons_succ, List.getElem_cons_zero, Act.put, List.setIfInBounds_toArray, List.set_cons_zero, List.set_cons_succ]
          refine wpAnyH_take (i := 5) (oi := _) (v := ?_) rfl (by kernel_rfl) (by kernel_rfl) (by kernel_rfl) (fun _ _ _ h => h) (Or.inl ⟨by rfl, ?_⟩) (by assumption) ?_
          rotate_left 1
          · (intro w hSw; (try dsimp only at hSw); go_simp; try with_reducible rfl)
          try simp (maxSteps := 10000000) only [List.getElem_toArray, List.getElem_cons_succ, List.getElem_cons_zero, Act.put, List.setIfInBounds_toArray, List.set_cons_zero, List.set_cons_succ]
          refine wpAnyH_take (i := 6) (oi := _) (v := ?_) rfl (by kernel_rfl) (by kernel_rfl) (by kernel_rfl) (fun _ _ _ h => h) (Or.inl ⟨by rfl, ?_⟩) (by assumption) ?_
          rotate_left 1
          · (intro w hSw; (try dsimp only at hSw); go_simp; try with_reducible rfl)
          try simp (maxSteps := 10000000) only [List.getElem_toArray, List.getElem_cons_succ, List.getElem_cons_zero, Act.put, List.setIfInBounds_toArray, List.set_cons_zero, List.set_cons_succ]
          refine wpAnyH_take (i := 7) (oi := _) (v := undef) rfl (by kernel_rfl) (by kernel_rfl) (by kernel_rfl) (fun _ _ _ h => h) (Or.inr ⟨by rfl, rfl⟩) (by assumption) ?_
          try simp (maxSteps := 10000000) only [List.getElem_toArray, List.getElem_cons_succ, List.getElem_cons_zero, Act.put, List.setIfInBounds_toArray, List.set_cons_zero, List.set_cons_succ]
          refine wpAnyH_take (i := 8) (oi := _) (v := undef) rfl (by kernel_rfl) (by kernel_rfl) (by kernel_rfl) (fun _ _ _ h => h) (Or.inr ⟨by rfl, rfl⟩) (by assumption) ?_
          try simp (maxSteps := 10000000) only [List.getElem_toArray, List.getElem_cons_succ, List.getElem_cons_zero, Act.put, List.setIfInBounds_toArray, List.set_cons_zero, List.set_cons_succ]
          refine wpAnyH_take (i := 9) (oi := _) (v := undef) rfl (by kernel_rfl) (by kernel_rfl) (by kernel_rfl) (fun _ _ _ h => h) (Or.inr ⟨by rfl, rfl⟩) (by assumption) ?_
          try simp (maxSteps := 10000000) only [List.getElem_toArray, List.getElem_cons_succ, List.getElem_cons_zero, Act.put, List.setIfInBounds_toArray, List.set_cons_zero, List.set_cons_succ]
          refine wpAnyH_take (i := 10) (oi := _) (v := undef) rfl (by kernel_rfl) (by kernel_rfl) (by kernel_rfl) (fun _ _ _ h => h) (Or.inr ⟨by rfl, rfl⟩) (by assumption) ?_
          try simp (maxSteps := 10000000) only [List.getElem_toArray, List.getElem_cons_succ, List.getElem_cons_zero, Act.put, List.setIfInBounds_toArray, List.set_cons_zero, List.set_cons_succ]
          refine wpAnyH_take (i := 11) (oi := _) (v := undef) rfl (by kernel_rfl) (by kernel_rfl) (by kernel_rfl) (fun _ _ _ h => h) (Or.inr ⟨by rfl, rfl⟩) (by assumption) ?_
          try simp (maxSteps := 10000000) only [List.getElem_toArray, List.getElem_cons_succ, List.getElem_cons_zero, Act.put, List.setIfInBounds_toArray, List.set_cons_zero, List.set_cons_succ]
          refine wpAnyH_take (i := 12) (oi := _) (v := undef) rfl (by kernel_rfl) (by kernel_rfl) (by kernel_rfl) (fun _ _ _ h => h) (Or.inr ⟨by rfl, rfl⟩) (by assumption) ?_
          try simp (maxSteps := 10000000) only [List.getElem_toArray, List.getElem_cons_succ, List.getElem_cons_zero, Act.put, List.setIfInBounds_toArray, List.set_cons_zero, List.set_cons_succ]
          refine wpAnyH_take (i := 13) (oi := _) (v := undef) rfl (by kernel_rfl) (by kernel_rfl) (by kernel_rfl) (fun _ _ _ h => h) (Or.inr ⟨by rfl, rfl⟩) (by assumption) ?_
          try simp (maxSteps := 10000000) only [List.getElem_toArray, List.getElem_cons_succ, List.getElem_cons_zero, Act.put, List.setIfInBounds_toArray, List.set_cons_zero, List.set_cons_succ]
          refine wpAnyH_take (i := 14) (oi := _) (v := undef) rfl (by kernel_rfl) (by kernel_rfl) (by kernel_rfl) (fun _ _ _ h => h) (Or.inr ⟨by rfl, rfl⟩) (by assumption) ?_
          try simp (maxSteps := 10000000) only [List.getElem_toArray, List.getElem_cons_succ, List.getElem_cons_zero, Act.put, List.setIfInBounds_toArray, List.set_cons_zero, List.set_cons_succ]
          refine wpAnyH_take (i := 15) (oi := _) (v := undef) rfl (by kernel_rfl) (by kernel_rfl) (by kernel_rfl) (fun _ _ _ h => h) (Or.inr ⟨by rfl, rfl⟩) (by assumption) ?_
          try simp (maxSteps := 10000000) only [List.getElem_toArray, List.getElem_cons_succ, List.getElem_cons_zero, Act.put, List.setIfInBounds_toArray, List.set_cons_zero, List.set_cons_succ]
          refine wpAnyH_take (i := 16) (oi := _) (v := undef) rfl (by kernel_rfl) (by kernel_rfl) (by kernel_rfl) (fun _ _ _ h => h) (Or.inr ⟨by rfl, rfl⟩) (by assumption) ?_
          try simp (maxSteps := 10000000) only [List.getElem_toArray, List.getElem_cons_succ, List.getElem_cons_zero, Act.put, List.setIfInBounds_toArray, List.set_cons_zero, List.set_cons_succ]
          refine wpAnyH_take (i := 17) (oi := _) (v := undef) rfl (by kernel_rfl) (by kernel_rfl) (by kernel_rfl) (fun _ _ _ h => h) (Or.inr ⟨by rfl, rfl⟩) (by assumption) ?_
          try simp (maxSteps := 10000000) only [List.getElem_toArray, List.getElem_cons_succ, List.getElem_cons_zero, Act.put, List.setIfInBounds_toArray, List.set_cons_zero, List.set_cons_succ]
          refine wpAnyH_take (i := 18) (oi := _) (v := ?_) rfl (by kernel_rfl) (by kernel_rfl) (by kernel_rfl) (fun _ _ _ h => h) (Or.inl ⟨by rfl, ?_⟩) (by assumption) ?_
          rotate_left 1
          · (intro w hSw; (try dsimp only at hSw); go_simp; try with_reducible rfl)
          try simp (maxSteps := 10000000) only [List.getElem_toArray, List.getElem_cons_succ, List.getElem_cons_zero, Act.put, List.setIfInBounds_toArray, List.set_cons_zero, List.set_cons_succ]
          refine wpAnyH_take (i := 19) (oi := _) (v := ?_) rfl (by kernel_rfl) (by kernel_rfl) (by kernel_rfl) (fun _ _ _ h => h) (Or.inl ⟨by rfl, ?_⟩) (by assumption) ?_
          rotate_left 1
          · (intro w hSw; (try dsimp only at hSw); go_simp; try with_reducible rfl)
          try simp (maxSteps := 10000000) only [List.getElem_toArray, List.getElem_cons_succ, List.getElem_cons_zero, Act.put, List.setIfInBounds_toArray, List.set_cons_zero, List.set_cons_succ]
          refine wpAnyH_done (by kernel_rfl) ?_ _
          go_wp2
          go_roundg (l.length - (0 + 1))
          case measure => omega
          case rel => exact ⟨0 + 1, by omega, by go_num, hb1⟩
        | succ i =>
          have hXr := tr_below HX.out hbj
          have hiX := HI.out
          obtain ⟨xa, hxa⟩ : ∃ xa, (isort l)[i]? = some xa := ⟨(isort l)[i]'(by omega), by simp⟩
          obtain ⟨xb, hxb⟩ : ∃ xb, (isort l)[i + 1]? = some xb := ⟨(isort l)[i + 1]'(by omega), by simp⟩
          have hfa := hid (okT_sort Hf.out xa (List.mem_of_getElem? hxa))
          have hfb := hid (okT_sort Hf.out xb (List.mem_of_getElem? hxb))
          have hle := isort_rises l (okT_wf Hf.out) i (i + 1) xa xb (by omega) hxa hxb
          obtain ⟨pk, pneg, pod, pld, pcd, pnm, pn, pol, pll, pcl, pob, plb, pcb, hTp, y0, y1, y2, y3, y4, y5, y6⟩ := hXr.get0 hxa
          obtain ⟨qk, qneg, qod, qld, qcd, qnm, qn, qol, qll, qcl, qob, qlb, qcb, hTq, u0, u1, u2, u3, u4, u5, u6⟩ := hXr.get0 hxb
          obtain ⟨X, hX⟩ : ∃ X, cT xa xb = X := ⟨_, rfl⟩
          rw [hX] at hle
          have hX1 : ¬ 0 < X := by omega
          have hDr : Below wr.heap.size wr wr.drew := (Below.refl _ _).drew
          have HC := hid (show Calls Tryd.prog 11 #[tmV pk pneg (.slice pod pld pcd) pnm pn (.slice pol pll pcl) (.slice pob plb pcb), tmV qk qneg (.slice qod qld qcd) qnm qn (.slice qol qll qcl) (.slice qob qlb qcb)] wr.drew fun e w' => e = .returned (.int .i64 X) ∧ Below wr.drew.heap.size wr.drew w' by
            have := Compare_o xa xb _ _ wr.drew (tv_below hTp hDr) (tv_below hTq hDr) hfa.out.1 hfb.out.1 hfa.out.2.1 (HT.out _ (below_and B8 (Nat.le_refl _) hbj.drew))
            rw [hX] at this
            exact this)
          have hS : Hid (∀ w', Below wr.drew.heap.size wr.drew w' → (w'.cell? ⟨g, i * 7, none⟩ = some (.int .i64 pk) ∧ w'.cell? ⟨g, i * 7 + 1, none⟩ = some (.bool pneg) ∧ w'.cell? ⟨g, i * 7 + 2, none⟩ = some (.slice pod pld pcd) ∧ w'.cell? ⟨g, i * 7 + 3, none⟩ = some (.string pnm) ∧ w'.cell? ⟨g, i * 7 + 4, none⟩ = some (.int .i64 pn) ∧ w'.cell? ⟨g, i * 7 + 5, none⟩ = some (.slice pol pll pcl) ∧ w'.cell? ⟨g, i * 7 + 6, none⟩ = some (.slice pob plb pcb) ∧ w'.cell? ⟨g, (i + 1) * 7, none⟩ = some (.int .i64 qk) ∧ w'.cell? ⟨g, (i + 1) * 7 + 1, none⟩ = some (.bool qneg) ∧ w'.cell? ⟨g, (i + 1) * 7 + 2, none⟩ = some (.slice qod qld qcd) ∧ w'.cell? ⟨g, (i + 1) * 7 + 3, none⟩ = some (.string qnm) ∧ w'.cell? ⟨g, (i + 1) * 7 + 4, none⟩ = some (.int .i64 qn) ∧ w'.cell? ⟨g, (i + 1) * 7 + 5, none⟩ = some (.slice qol qll qcl) ∧ w'.cell? ⟨g, (i + 1) * 7 + 6, none⟩ = some (.slice qob qlb qcb))) := hid (fun w' hb => by
            have q : ∀ {a : Addr} {v : Value}, wr.cell? a = some v → w'.cell? a = some v := fun h => (hb.cell (World.block_lt_of_cell? _ _ h)).trans h
            exact ⟨q y0, q y1, q y2, q y3, q y4, q y5, q y6, q u0, q u1, q u2, q u3, q u4, q u5, q u6⟩)
          have hk9 : Below wr.drew.heap.size wr.drew wr.drew := Below.refl _ _
          have hb1 : Below w8.heap.size w8 wr.drew := hbj.drew
          have hi0 : (0 : Int) < (i : Int) + 1 := by omega
          have hi1 : (0 : Int) ≤ (i : Int) + 1 := by omega
          have hin : (i : Int) < (l.length : Int) := by omega
          have hin1 : (i : Int) + 1 < (l.length : Int) := by omega
          have hpw : IntKind.i64.wrap (i : Int) = (i : Int) := by rw [IntKind.wrap_i64]; omega
          clear hXr hxa hxb hTp hTq hDr hX y0 y1 y2 y3 y4 y5 y6 u0 u1 u2 u3 u4 u5 u6 hbj hiX hle
          go_wp2_with fail
          refine wp_region_held_drew (S := fun w' => w'.cell? ⟨g, i * 7, none⟩ = some (.int .i64 pk) ∧ w'.cell? ⟨g, i * 7 + 1, none⟩ = some (.bool pneg) ∧ w'.cell? ⟨g, i * 7 + 2, none⟩ = some (.slice pod pld pcd) ∧ w'.cell? ⟨g, i * 7 + 3, none⟩ = some (.string pnm) ∧ w'.cell? ⟨g, i * 7 + 4, none⟩ = some (.int .i64 pn) ∧ w'.cell? ⟨g, i * 7 + 5, none⟩ = some (.slice pol pll pcl) ∧ w'.cell? ⟨g, i * 7 + 6, none⟩ = some (.slice pob plb pcb) ∧ w'.cell? ⟨g, (i + 1) * 7, none⟩ = some (.int .i64 qk) ∧ w'.cell? ⟨g, (i + 1) * 7 + 1, none⟩ = some (.bool qneg) ∧ w'.cell? ⟨g, (i + 1) * 7 + 2, none⟩ = some (.slice qod qld qcd) ∧ w'.cell? ⟨g, (i + 1) * 7 + 3, none⟩ = some (.string qnm) ∧ w'.cell? ⟨g, (i + 1) * 7 + 4, none⟩ = some (.int .i64 qn) ∧ w'.cell? ⟨g, (i + 1) * 7 + 5, none⟩ = some (.slice qol qll qcl) ∧ w'.cell? ⟨g, (i + 1) * 7 + 6, none⟩ = some (.slice qob qlb qcb)) (by kernel_rfl) (by exact hS.out _ hk9) (fun hHeld => ?_)
          generalize wr.drew = V9 at *
          refine wpAnyH_take (i := 0) (oi := _) (v := ?_) rfl (by kernel_rfl) (by kernel_rfl) (by kernel_rfl) (fun _ _ _ h => h) (Or.inl ⟨by rfl, ?_⟩) (by assumption) ?_
          rotate_left 1
          · (intro w hSw; (try dsimp only at hSw); go_simp; try with_reducible rfl)
          try simp (maxSteps := 10000000) only [List.getElem_toArray, List.getElem_cons_succ, List.getElem_cons_zero, Act.put, List.setIfInBounds_toArray, List.set_cons_zero, List.set_cons_succ]
          refine wpAnyH_take (i := 1) (oi := _) (v := ?_) rfl (by kernel_rfl) (by kernel_rfl) (by kernel_rfl) (fun _ _ _ h => h) (Or.inl ⟨by rfl, ?_⟩) (by assumption) ?_
          rotate_left 1
          · (intro w hSw; (try dsimp only at hSw); go_simp; try with_reducible rfl)
          try simp (maxSteps := 10000000) only [List.getElem_toArray, List.getElem_cons_succ, List.getElem_cons_zero, Act.put, List.setIfInBounds_toArray, List.set_cons_zero, List.set_cons_succ]
          refine wpAnyH_take (i := 2) (oi := _) (v := ?_) rfl (by kernel_rfl) (by kernel_rfl) (by kernel_rfl) (fun _ _ _ h => h) (Or.inl ⟨by rfl, ?_⟩) (by assumption) ?_
          rotate_left 1
          · (intro w hSw; (try dsimp only at hSw); go_simp; try with_reducible rfl)
          try simp (maxSteps := 10000000) only [List.getElem_toArray, List.getElem_cons_succ, List.getElem_cons_zero, Act.put, List.setIfInBounds_toArray, List.set_cons_zero, List.set_cons_succ]
          refine wpAnyH_take (i := 3) (oi := _) (v := ?_) rfl (by kernel_rfl) (by kernel_rfl) (by kernel_rfl) (fun _ _ _ h => h) (Or.inl ⟨by rfl, ?_⟩) (by assumption) ?_
          rotate_left 1
          · (intro w hSw; (try dsimp only at hSw); go_simp; try with_reducible rfl)
          try simp (maxSteps := 10000000) only [List.getElem_toArray, List.getElem_cons_succ, List.getElem_cons_zero, Act.put, List.setIfInBounds_toArray, List.set_cons_zero, List.set_cons_succ]
          refine wpAnyH_take (i := 4) (oi := _) (v := ?_) rfl (by kernel_rfl) (by kernel_rfl) (by kernel_rfl) (fun _ _ _ h => h) (Or.inl ⟨by rfl, ?_⟩) (by assumption) ?_
          rotate_left 1
          · (intro w hSw; (try dsimp only at hSw); go_simp; try with_reducible rfl)
          try simp (maxSteps := 10000000) only [List.getElem_toArray, List.getElem_cons_succ, List.getElem_cons_zero, Act.put, List.setIfInBounds_toArray, List.set_cons_zero, List.set_cons_succ]
          refine wpAnyH_take (i := 5) (oi := _) (v := ?_) rfl (by kernel_rfl) (by kernel_rfl) (by kernel_rfl) (fun _ _ _ h => h) (Or.inl ⟨by rfl, ?_⟩) (by assumption) ?_
          rotate_left 1
          · (intro w hSw; (try dsimp only at hSw); go_simp; try with_reducible rfl)
          try simp (maxSteps := 10000000) only [List.getElem_toArray, List.getElem_cons_succ, List.getElem_cons_zero, Act.put, List.setIfInBounds_toArray, List.set_cons_zero, List.set_cons_succ]
          refine wpAnyH_take (i := 6) (oi := _) (v := ?_) rfl (by kernel_rfl) (by kernel_rfl) (by kernel_rfl) (fun _ _ _ h => h) (Or.inl ⟨by rfl, ?_⟩) (by assumption) ?_
          rotate_left 1
          · (intro w hSw; (try dsimp only at hSw); go_simp; try with_reducible rfl)
          try simp (maxSteps := 10000000) only [List.getElem_toArray, List.getElem_cons_succ, List.getElem_cons_zero, Act.put, List.setIfInBounds_toArray, List.set_cons_zero, List.set_cons_succ]
          refine wpAnyH_take (i := 7) (oi := _) (v := ?_) rfl (by kernel_rfl) (by kernel_rfl) (by kernel_rfl) (fun _ _ _ h => h) (Or.inl ⟨by rfl, ?_⟩) (by assumption) ?_
          rotate_left 1
          · (intro w hSw; (try dsimp only at hSw); go_simp; try with_reducible rfl)
          try simp (maxSteps := 10000000) only [List.getElem_toArray, List.getElem_cons_succ, List.getElem_cons_zero, Act.put, List.setIfInBounds_toArray, List.set_cons_zero, List.set_cons_succ]
          refine wpAnyH_take (i := 8) (oi := _) (v := ?_) rfl (by kernel_rfl) (by kernel_rfl) (by kernel_rfl) (fun _ _ _ h => h) (Or.inl ⟨by rfl, ?_⟩) (by assumption) ?_
          rotate_left 1
          · (intro w hSw; (try dsimp only at hSw); go_simp; try with_reducible rfl)
          try simp (maxSteps := 10000000) only [List.getElem_toArray, List.getElem_cons_succ, List.getElem_cons_zero, Act.put, List.setIfInBounds_toArray, List.set_cons_zero, List.set_cons_succ]
          refine wpAnyH_take (i := 9) (oi := _) (v := ?_) rfl (by kernel_rfl) (by kernel_rfl) (by kernel_rfl) (fun _ _ _ h => h) (Or.inl ⟨by rfl, ?_⟩) (by assumption) ?_
          rotate_left 1
          · (intro w hSw; (try dsimp only at hSw); go_simp; try with_reducible rfl)
          try simp (maxSteps := 10000000) only [List.getElem_toArray, List.getElem_cons_succ, List.getElem_cons_zero, Act.put, List.setIfInBounds_toArray, List.set_cons_zero, List.set_cons_succ]
          refine wpAnyH_take (i := 10) (oi := _) (v := ?_) rfl (by kernel_rfl) (by kernel_rfl) (by kernel_rfl) (fun _ _ _ h => h) (Or.inl ⟨by rfl, ?_⟩) (by assumption) ?_
          rotate_left 1
          · (intro w hSw; (try dsimp only at hSw); go_simp; try with_reducible rfl)
          try simp (maxSteps := 10000000) only [List.getElem_toArray, List.getElem_cons_succ, List.getElem_cons_zero, Act.put, List.setIfInBounds_toArray, List.set_cons_zero, List.set_cons_succ]
          refine wpAnyH_take (i := 11) (oi := _) (v := ?_) rfl (by kernel_rfl) (by kernel_rfl) (by kernel_rfl) (fun _ _ _ h => h) (Or.inl ⟨by rfl, ?_⟩) (by assumption) ?_
          rotate_left 1
          · (intro w hSw; (try dsimp only at hSw); go_simp; try with_reducible rfl)
          try simp (maxSteps := 10000000) only [List.getElem_toArray, List.getElem_cons_succ, List.getElem_cons_zero, Act.put, List.setIfInBounds_toArray, List.set_cons_zero, List.set_cons_succ]
          refine wpAnyH_take (i := 12) (oi := _) (v := ?_) rfl (by kernel_rfl) (by kernel_rfl) (by kernel_rfl) (fun _ _ _ h => h) (Or.inl ⟨by rfl, ?_⟩) (by assumption) ?_
          rotate_left 1
          · (intro w hSw; (try dsimp only at hSw); go_simp; try with_reducible rfl)
          try simp (maxSteps := 10000000) only [List.getElem_toArray, List.getElem_cons_succ, List.getElem_cons_zero, Act.put, List.setIfInBounds_toArray, List.set_cons_zero, List.set_cons_succ]
          refine wpAnyH_take (i := 13) (oi := _) (v := ?_) rfl (by kernel_rfl) (by kernel_rfl) (by kernel_rfl) (fun _ _ _ h => h) (Or.inl ⟨by rfl, ?_⟩) (by assumption) ?_
          rotate_left 1
          · (intro w hSw; (try dsimp only at hSw); go_simp; try with_reducible rfl)
          try simp (maxSteps := 10000000) only [List.getElem_toArray, List.getElem_cons_succ, List.getElem_cons_zero, Act.put, List.setIfInBounds_toArray, List.set_cons_zero, List.set_cons_succ]
          refine wpAnyH_take (i := 14) (oi := _) (v := ?_) rfl (by kernel_rfl) (by kernel_rfl) (by kernel_rfl) (fun _ _ _ h => h) (Or.inl ⟨by rfl, ?_⟩) (by assumption) ?_
          rotate_left 1
          · (intro w hSw; (try dsimp only at hSw); go_simp; try with_reducible rfl)
          try simp (maxSteps := 10000000) only [List.getElem_toArray, List.getElem_cons_succ, List.getElem_cons_zero, Act.put, List.setIfInBounds_toArray, List.set_cons_zero, List.set_cons_succ]
          refine wpAnyH_take (i := 15) (oi := _) (v := ?_) rfl (by kernel_rfl) (by kernel_rfl) (by kernel_rfl) (fun _ _ _ h => h) (Or.inl ⟨by rfl, ?_⟩) (by assumption) ?_
          rotate_left 1
          · (intro w hSw; (try dsimp only at hSw); go_simp; try with_reducible rfl)
          try simp (maxSteps := 10000000) only [List.getElem_toArray, List.getElem_cons_succ, List.getElem_cons_zero, Act.put, List.setIfInBounds_toArray, List.set_cons_zero, List.set_cons_succ]
          refine wpAnyH_ready (rs := [16]) (by kernel_rfl) (by simp) ?_
          refine AllReadyH.cons rfl (fun K hK => ?_) AllReadyH.nil
          go_simp
          refine HC.out.mono ?_
          rintro e q2 ⟨rfl, r2⟩
          try go_simp
          refine hK.out _ _ ?_ (fun hHeld => ?_)
          · first | exact hS.out _ (by assumption) | trivial
          clear hK K
          try simp (maxSteps := 10000000) only [List.getElem_toArray, List.getElem_cons_succ, List.getElem_cons_zero, Act.put, List.setIfInBounds_toArray, List.set_cons_zero, List.set_cons_succ]
          refine wpAnyH_take (i := 17) (oi := _) (v := ?_) rfl (by kernel_rfl) (by kernel_rfl) (by kernel_rfl) (fun _ _ _ h => h) (Or.inl ⟨by rfl, ?_⟩) (by assumption) ?_
          rotate_left 1
          · (intro w hSw; (try dsimp only at hSw); go_simp; try with_reducible rfl)
          try simp (maxSteps := 10000000) only [List.getElem_toArray, List.getElem_cons_succ, List.getElem_cons_zero, Act.put, List.setIfInBounds_toArray, List.set_cons_zero, List.set_cons_succ]
          refine wpAnyH_take (i := 18) (oi := _) (v := ?_) rfl (by kernel_rfl) (by kernel_rfl) (by kernel_rfl) (fun _ _ _ h => h) (Or.inl ⟨by rfl, ?_⟩) (by assumption) ?_
          rotate_left 1
          · (intro w hSw; (try dsimp only at hSw); go_simp; try with_reducible rfl)
          try simp (maxSteps := 10000000) only [List.getElem_toArray, List.getElem_cons_succ, List.getElem_cons_zero, Act.put, List.setIfInBounds_toArray, List.set_cons_zero, List.set_cons_succ]
          refine wpAnyH_take (i := 19) (oi := _) (v := ?_) rfl (by kernel_rfl) (by kernel_rfl) (by kernel_rfl) (fun _ _ _ h => h) (Or.inl ⟨by rfl, ?_⟩) (by assumption) ?_
          rotate_left 1
          · (intro w hSw; (try dsimp only at hSw); go_simp; try with_reducible rfl)
          try simp (maxSteps := 10000000) only [List.getElem_toArray, List.getElem_cons_succ, List.getElem_cons_zero, Act.put, List.setIfInBounds_toArray, List.set_cons_zero, List.set_cons_succ]
          refine wpAnyH_done (by kernel_rfl) ?_ _
          have hbe := below_and hb1 (Nat.le_refl _) r2
          clear HC hS hk9 hb1 r2 hHeld
          go_wp2
          go_roundg (l.length - (i + 1 + 1))
          case measure => omega
          case rel => exact ⟨i + 1 + 1, by omega, by go_num, hbe⟩
      have hjj : (j : Int) < (l.length : Int) := by omega
      have hiX := HI.out
      obtain ⟨tj, htj'⟩ : ∃ tj, l[j]? = some tj := ⟨l[j], by simp [hjl]⟩
      obtain ⟨xj, hxj⟩ : ∃ xj, (isort l)[j]? = some xj := ⟨(isort l)[j]'(by omega), by simp⟩
      have Hxj := hid hxj
      have Hfj := hid (Hf.out tj (List.mem_of_getElem? htj'))
      have Hfx := hid (okT_sort Hf.out xj (List.mem_of_getElem? hxj))
      obtain ⟨N1, hN1⟩ : ∃ N, cnt (fun y => cT ti y == 0) (l.take j) = N := ⟨_, rfl⟩
      obtain ⟨N2, hN2⟩ : ∃ N, cnt (fun y => cT ti y == 0) ((isort l).take j) = N := ⟨_, rfl⟩
      have hb1 : N1 ≤ 20 := by rw [← hN1]; exact Nat.le_trans (cnt_le _ _) (by simp; omega)
      have hb2 : N2 ≤ 20 := by rw [← hN2]; exact Nat.le_trans (cnt_le _ _) (by simp; omega)
      have hnx := cnt_next (p := fun y => cT ti y == 0) htj'
      rw [hN1] at hnx ⊢
      rw [hN2]
      have HN2 := hid hN2
      obtain ⟨pa', pk, pneg, pod, pld, pcd, pnm, pn, pol, pll, pcl, pob, plb, pcb, hpa, hTp, y0, y1, y2, y3, y4, y5, y6⟩ := HR.out.get Hti.out hbj
      obtain ⟨pa'', qk, qneg, qod, qld, qcd, qnm, qn, qol, qll, qcl, qob, qlb, qcb, hqa, hTq, u0, u1, u2, u3, u4, u5, u6⟩ := HR.out.get htj' hbj
      obtain rfl := Option.some.inj hpa
      obtain rfl := Option.some.inj hqa
      obtain ⟨X, hX⟩ : ∃ X, cT ti tj = X := ⟨_, rfl⟩
      have hDr : Below wr.heap.size wr wr.drew := (Below.refl _ _).drew
      have HC := hid (show Calls Tryd.prog 11 #[tmV pk pneg (.slice pod pld pcd) pnm pn (.slice pol pll pcl) (.slice pob plb pcb), tmV qk qneg (.slice qod qld qcd) qnm qn (.slice qol qll qcl) (.slice qob qlb qcb)] wr.drew fun e w' => e = .returned (.int .i64 X) ∧ Below wr.drew.heap.size wr.drew w' by
        have := Compare_o ti tj _ _ wr.drew (tv_below hTp hDr) (tv_below hTq hDr) Hfi.out.1 Hfj.out.1 Hfi.out.2.1 (HT.out _ (below_and B8 (Nat.le_refl _) hbj.drew))
        rw [hX] at this
        exact this)
      rw [hX] at hnx
      have Hnx := hid hnx
      have hS : Hid (∀ w', Below wr.drew.heap.size wr.drew w' → (w'.cell? (pa.add (i * 7)) = some (.int .i64 pk) ∧ w'.cell? ⟨(pa.add (i * 7)).block, (pa.add (i * 7)).off + 1, none⟩ = some (.bool pneg) ∧ w'.cell? ⟨(pa.add (i * 7)).block, (pa.add (i * 7)).off + 2, none⟩ = some (.slice pod pld pcd) ∧ w'.cell? ⟨(pa.add (i * 7)).block, (pa.add (i * 7)).off + 3, none⟩ = some (.string pnm) ∧ w'.cell? ⟨(pa.add (i * 7)).block, (pa.add (i * 7)).off + 4, none⟩ = some (.int .i64 pn) ∧ w'.cell? ⟨(pa.add (i * 7)).block, (pa.add (i * 7)).off + 5, none⟩ = some (.slice pol pll pcl) ∧ w'.cell? ⟨(pa.add (i * 7)).block, (pa.add (i * 7)).off + 6, none⟩ = some (.slice pob plb pcb) ∧ w'.cell? (pa.add (j * 7)) = some (.int .i64 qk) ∧ w'.cell? ⟨(pa.add (j * 7)).block, (pa.add (j * 7)).off + 1, none⟩ = some (.bool qneg) ∧ w'.cell? ⟨(pa.add (j * 7)).block, (pa.add (j * 7)).off + 2, none⟩ = some (.slice qod qld qcd) ∧ w'.cell? ⟨(pa.add (j * 7)).block, (pa.add (j * 7)).off + 3, none⟩ = some (.string qnm) ∧ w'.cell? ⟨(pa.add (j * 7)).block, (pa.add (j * 7)).off + 4, none⟩ = some (.int .i64 qn) ∧ w'.cell? ⟨(pa.add (j * 7)).block, (pa.add (j * 7)).off + 5, none⟩ = some (.slice qol qll qcl) ∧ w'.cell? ⟨(pa.add (j * 7)).block, (pa.add (j * 7)).off + 6, none⟩ = some (.slice qob qlb qcb))) := hid (fun w' hb => by
        have q : ∀ {a : Addr} {v : Value}, wr.cell? a = some v → w'.cell? a = some v := fun h => (hb.cell (World.block_lt_of_cell? _ _ h)).trans h
        exact ⟨q y0, q y1, q y2, q y3, q y4, q y5, q y6, q u0, q u1, q u2, q u3, q u4, q u5, q u6⟩)
      have hk9 : Below wr.drew.heap.size wr.drew wr.drew := Below.refl _ _
      have hbz : Below w8.heap.size w8 wr.drew := hbj.drew
      clear hTp hTq hDr hX y0 y1 y2 y3 y4 y5 y6 u0 u1 u2 u3 u4 u5 u6 hbj hiX htj' hxj hN1 hN2 hnx
      go_wp2_with fail
      refine wp_region_held_drew (S := fun w' => w'.cell? (pa.add (i * 7)) = some (.int .i64 pk) ∧ w'.cell? ⟨(pa.add (i * 7)).block, (pa.add (i * 7)).off + 1, none⟩ = some (.bool pneg) ∧ w'.cell? ⟨(pa.add (i * 7)).block, (pa.add (i * 7)).off + 2, none⟩ = some (.slice pod pld pcd) ∧ w'.cell? ⟨(pa.add (i * 7)).block, (pa.add (i * 7)).off + 3, none⟩ = some (.string pnm) ∧ w'.cell? ⟨(pa.add (i * 7)).block, (pa.add (i * 7)).off + 4, none⟩ = some (.int .i64 pn) ∧ w'.cell? ⟨(pa.add (i * 7)).block, (pa.add (i * 7)).off + 5, none⟩ = some (.slice pol pll pcl) ∧ w'.cell? ⟨(pa.add (i * 7)).block, (pa.add (i * 7)).off + 6, none⟩ = some (.slice pob plb pcb) ∧ w'.cell? (pa.add (j * 7)) = some (.int .i64 qk) ∧ w'.cell? ⟨(pa.add (j * 7)).block, (pa.add (j * 7)).off + 1, none⟩ = some (.bool qneg) ∧ w'.cell? ⟨(pa.add (j * 7)).block, (pa.add (j * 7)).off + 2, none⟩ = some (.slice qod qld qcd) ∧ w'.cell? ⟨(pa.add (j * 7)).block, (pa.add (j * 7)).off + 3, none⟩ = some (.string qnm) ∧ w'.cell? ⟨(pa.add (j * 7)).block, (pa.add (j * 7)).off + 4, none⟩ = some (.int .i64 qn) ∧ w'.cell? ⟨(pa.add (j * 7)).block, (pa.add (j * 7)).off + 5, none⟩ = some (.slice qol qll qcl) ∧ w'.cell? ⟨(pa.add (j * 7)).block, (pa.add (j * 7)).off + 6, none⟩ = some (.slice qob qlb qcb)) (by kernel_rfl) (by exact hS.out _ hk9) (fun hHeld => ?_)
      generalize wr.drew = V9 at *
      refine wpAnyH_take (i := 0) (oi := _) (v := ?_) rfl (by kernel_rfl) (by kernel_rfl) (by kernel_rfl) (fun _ _ _ h => h) (Or.inl ⟨by rfl, ?_⟩) (by assumption) ?_
      rotate_left 1
      · (intro w hSw; (try dsimp only at hSw); go_simp; try with_reducible rfl)
      try simp (maxSteps := 10000000) only [List.getElem_toArray, List.getElem_cons_succ, List.getElem_cons_zero, Act.put, List.setIfInBounds_toArray, List.set_cons_zero, List.set_cons_succ]
      refine wpAnyH_take (i := 1) (oi := _) (v := ?_) rfl (by kernel_rfl) (by kernel_rfl) (by kernel_rfl) (fun _ _ _ h => h) (Or.inl ⟨by rfl, ?_⟩) (by assumption) ?_
      rotate_left 1
      · (intro w hSw; (try dsimp only at hSw); go_simp; try with_reducible rfl)
      try simp (maxSteps := 10000000) only [List.getElem_toArray, List.getElem_cons_succ, List.getElem_cons_zero, Act.put, List.setIfInBounds_toArray, List.set_cons_zero, List.set_cons_succ]
      refine wpAnyH_take (i := 2) (oi := _) (v := ?_) rfl (by kernel_rfl) (by kernel_rfl) (by kernel_rfl) (fun _ _ _ h => h) (Or.inl ⟨by rfl, ?_⟩) (by assumption) ?_
      rotate_left 1
      · (intro w hSw; (try dsimp only at hSw); go_simp; try with_reducible rfl)
      try simp (maxSteps := 10000000) only [List.getElem_toArray, List.getElem_cons_succ, List.getElem_cons_zero, Act.put, List.setIfInBounds_toArray, List.set_cons_zero, List.set_cons_succ]
      refine wpAnyH_take (i := 3) (oi := _) (v := ?_) rfl (by kernel_rfl) (by kernel_rfl) (by kernel_rfl) (fun _ _ _ h => h) (Or.inl ⟨by rfl, ?_⟩) (by assumption) ?_
      rotate_left 1
      · (intro w hSw; (try dsimp only at hSw); go_simp; try with_reducible rfl)
      try simp (maxSteps := 10000000) only [List.getElem_toArray, List.getElem_cons_succ, List.getElem_cons_zero, Act.put, List.setIfInBounds_toArray, List.set_cons_zero, List.set_cons_succ]
      refine wpAnyH_take (i := 4) (oi := _) (v := ?_) rfl (by kernel_rfl) (by kernel_rfl) (by kernel_rfl) (fun _ _ _ h => h) (Or.inl ⟨by rfl, ?_⟩) (by assumption) ?_
      rotate_left 1
      · (intro w hSw; (try dsimp only at hSw); go_simp; try with_reducible rfl)
      try simp (maxSteps := 10000000) only [List.getElem_toArray, List.getElem_cons_succ, List.getElem_cons_zero, Act.put, List.setIfInBounds_toArray, List.set_cons_zero, List.set_cons_succ]
      refine wpAnyH_take (i := 5) (oi := _) (v := ?_) rfl (by kernel_rfl) (by kernel_rfl) (by kernel_rfl) (fun _ _ _ h => h) (Or.inl ⟨by rfl, ?_⟩) (by assumption) ?_
      rotate_left 1
      · (intro w hSw; (try dsimp only at hSw); go_simp; try with_reducible rfl)
      try simp (maxSteps := 10000000) only [List.getElem_toArray, List.getElem_cons_succ, List.getElem_cons_zero, Act.put, List.setIfInBounds_toArray, List.set_cons_zero, List.set_cons_succ]
      refine wpAnyH_take (i := 6) (oi := _) (v := ?_) rfl (by kernel_rfl) (by kernel_rfl) (by kernel_rfl) (fun _ _ _ h => h) (Or.inl ⟨by rfl, ?_⟩) (by assumption) ?_
      rotate_left 1
      · (intro w hSw; (try dsimp only at hSw); go_simp; try with_reducible rfl)
      try simp (maxSteps := 10000000) only [List.getElem_toArray, List.getElem_cons_succ, List.getElem_cons_zero, Act.put, List.setIfInBounds_toArray, List.set_cons_zero, List.set_cons_succ]
      refine wpAnyH_take (i := 7) (oi := _) (v := ?_) rfl (by kernel_rfl) (by kernel_rfl) (by kernel_rfl) (fun _ _ _ h => h) (Or.inl ⟨by rfl, ?_⟩) (by assumption) ?_
      rotate_left 1
      · (intro w hSw; (try dsimp only at hSw); go_simp; try with_reducible rfl)
      try simp (maxSteps := 10000000) only [List.getElem_toArray, List.getElem_cons_succ, List.getElem_cons_zero, Act.put, List.setIfInBounds_toArray, List.set_cons_zero, List.set_cons_succ]
      refine wpAnyH_ready (rs := [8]) (by kernel_rfl) (by simp) ?_
      refine AllReadyH.cons rfl (fun K hK => ?_) AllReadyH.nil
      go_simp
      refine HC.out.mono ?_
      rintro e q2 ⟨rfl, r2⟩
      try go_simp
      refine hK.out _ _ ?_ (fun hHeld => ?_)
      · first | exact hS.out _ (by assumption) | trivial
      clear hK K
      try simp (maxSteps := 10000000) only [List.getElem_toArray, List.getElem_cons_succ, List.getElem_cons_zero, Act.put, List.setIfInBounds_toArray, List.set_cons_zero, List.set_cons_succ]
      refine wpAnyH_take (i := 9) (oi := _) (v := ?_) rfl (by kernel_rfl) (by kernel_rfl) (by kernel_rfl) (fun _ _ _ h => h) (Or.inl ⟨by rfl, ?_⟩) (by assumption) ?_
      rotate_left 1
      · (intro w hSw; (try dsimp only at hSw); go_simp; try with_reducible rfl)
      try simp (maxSteps := 10000000) only [List.getElem_toArray, List.getElem_cons_succ, List.getElem_cons_zero, Act.put, List.setIfInBounds_toArray, List.set_cons_zero, List.set_cons_succ]
      refine wpAnyH_done (by kernel_rfl) ?_ _
      have hbw := below_and hbz (Nat.le_refl _) r2
      clear HC hS hk9 hbz r2 hHeld
      generalize hwy : q2 = wy at *
      clear hwy
      by_cases hX0 : X = 0
      · have f1 : (X == 0) = true := by rw [hX0]; rfl
        have HcA : Hid (cnt (fun y => cT ti y == 0) (l.take (j + 1)) = N1 + 1) := hid (by rw [Hnx.out, f1]; rfl)
        clear hX0
        go_upto_region 21 with fail
        have hXw := tr_below HX.out hbw
        obtain ⟨qk, qneg, qod, qld, qcd, qnm, qn, qol, qll, qcl, qob, qlb, qcb, hTq, u0, u1, u2, u3, u4, u5, u6⟩ := hXw.get0 Hxj.out
        obtain ⟨pa', pk, pneg, pod, pld, pcd, pnm, pn, pol, pll, pcl, pob, plb, pcb, hpa, hTp, y0, y1, y2, y3, y4, y5, y6⟩ := HR.out.get Hti.out hbw
        obtain rfl := Option.some.inj hpa
        obtain ⟨Y, hY⟩ : ∃ Y, cT ti xj = Y := ⟨_, rfl⟩
        have hDr : Below wy.heap.size wy wy.drew := (Below.refl _ _).drew
        have HC := hid (show Calls Tryd.prog 11 #[tmV pk pneg (.slice pod pld pcd) pnm pn (.slice pol pll pcl) (.slice pob plb pcb), tmV qk qneg (.slice qod qld qcd) qnm qn (.slice qol qll qcl) (.slice qob qlb qcb)] wy.drew fun e w' => e = .returned (.int .i64 Y) ∧ Below wy.drew.heap.size wy.drew w' by
          have := Compare_o ti xj _ _ wy.drew (tv_below hTp hDr) (tv_below hTq hDr) Hfi.out.1 Hfx.out.1 Hfi.out.2.1 (HT.out _ (below_and B8 (Nat.le_refl _) hbw.drew))
          rw [hY] at this
          exact this)
        have HY := hid hY
        have hS : Hid (∀ w', Below wy.drew.heap.size wy.drew w' → (w'.cell? (pa.add (i * 7)) = some (.int .i64 pk) ∧ w'.cell? ⟨(pa.add (i * 7)).block, (pa.add (i * 7)).off + 1, none⟩ = some (.bool pneg) ∧ w'.cell? ⟨(pa.add (i * 7)).block, (pa.add (i * 7)).off + 2, none⟩ = some (.slice pod pld pcd) ∧ w'.cell? ⟨(pa.add (i * 7)).block, (pa.add (i * 7)).off + 3, none⟩ = some (.string pnm) ∧ w'.cell? ⟨(pa.add (i * 7)).block, (pa.add (i * 7)).off + 4, none⟩ = some (.int .i64 pn) ∧ w'.cell? ⟨(pa.add (i * 7)).block, (pa.add (i * 7)).off + 5, none⟩ = some (.slice pol pll pcl) ∧ w'.cell? ⟨(pa.add (i * 7)).block, (pa.add (i * 7)).off + 6, none⟩ = some (.slice pob plb pcb) ∧ w'.cell? ⟨g, j * 7, none⟩ = some (.int .i64 qk) ∧ w'.cell? ⟨g, j * 7 + 1, none⟩ = some (.bool qneg) ∧ w'.cell? ⟨g, j * 7 + 2, none⟩ = some (.slice qod qld qcd) ∧ w'.cell? ⟨g, j * 7 + 3, none⟩ = some (.string qnm) ∧ w'.cell? ⟨g, j * 7 + 4, none⟩ = some (.int .i64 qn) ∧ w'.cell? ⟨g, j * 7 + 5, none⟩ = some (.slice qol qll qcl) ∧ w'.cell? ⟨g, j * 7 + 6, none⟩ = some (.slice qob qlb qcb))) := hid (fun w' hb => by
          have q : ∀ {a : Addr} {v : Value}, wy.cell? a = some v → w'.cell? a = some v := fun h => (hb.cell (World.block_lt_of_cell? _ _ h)).trans h
          exact ⟨q y0, q y1, q y2, q y3, q y4, q y5, q y6, q u0, q u1, q u2, q u3, q u4, q u5, q u6⟩)
        have hk9 : Below wy.drew.heap.size wy.drew wy.drew := Below.refl _ _
        have hbz : Below w8.heap.size w8 wy.drew := hbw.drew
        clear hXw hTq hTp hDr y0 y1 y2 y3 y4 y5 y6 u0 u1 u2 u3 u4 u5 u6 hbw hY
        go_wp2_with fail
        refine wp_region_held_drew (S := fun w' => w'.cell? (pa.add (i * 7)) = some (.int .i64 pk) ∧ w'.cell? ⟨(pa.add (i * 7)).block, (pa.add (i * 7)).off + 1, none⟩ = some (.bool pneg) ∧ w'.cell? ⟨(pa.add (i * 7)).block, (pa.add (i * 7)).off + 2, none⟩ = some (.slice pod pld pcd) ∧ w'.cell? ⟨(pa.add (i * 7)).block, (pa.add (i * 7)).off + 3, none⟩ = some (.string pnm) ∧ w'.cell? ⟨(pa.add (i * 7)).block, (pa.add (i * 7)).off + 4, none⟩ = some (.int .i64 pn) ∧ w'.cell? ⟨(pa.add (i * 7)).block, (pa.add (i * 7)).off + 5, none⟩ = some (.slice pol pll pcl) ∧ w'.cell? ⟨(pa.add (i * 7)).block, (pa.add (i * 7)).off + 6, none⟩ = some (.slice pob plb pcb) ∧ w'.cell? ⟨g, j * 7, none⟩ = some (.int .i64 qk) ∧ w'.cell? ⟨g, j * 7 + 1, none⟩ = some (.bool qneg) ∧ w'.cell? ⟨g, j * 7 + 2, none⟩ = some (.slice qod qld qcd) ∧ w'.cell? ⟨g, j * 7 + 3, none⟩ = some (.string qnm) ∧ w'.cell? ⟨g, j * 7 + 4, none⟩ = some (.int .i64 qn) ∧ w'.cell? ⟨g, j * 7 + 5, none⟩ = some (.slice qol qll qcl) ∧ w'.cell? ⟨g, j * 7 + 6, none⟩ = some (.slice qob qlb qcb)) (by kernel_rfl) (by exact hS.out _ hk9) (fun hHeld => ?_)
        generalize wy.drew = V9 at *
        refine wpAnyH_take (i := 0) (oi := _) (v := ?_) rfl (by kernel_rfl) (by kernel_rfl) (by kernel_rfl) (fun _ _ _ h => h) (Or.inl ⟨by rfl, ?_⟩) (by assumption) ?_
        rotate_left 1
        · (intro w hSw; (try dsimp only at hSw); go_simp; try with_reducible rfl)
        try simp (maxSteps := 10000000) only [List.getElem_toArray, List.getElem_cons_succ, List.getElem_cons_zero, Act.put, List.setIfInBounds_toArray, List.set_cons_zero, List.set_cons_succ]
        refine wpAnyH_take (i := 1) (oi := _) (v := ?_) rfl (by kernel_rfl) (by kernel_rfl) (by kernel_rfl) (fun _ _ _ h => h) (Or.inl ⟨by rfl, ?_⟩) (by assumption) ?_
        rotate_left 1
        · (intro w hSw; (try dsimp only at hSw); go_simp; try with_reducible rfl)
        try simp (maxSteps := 10000000) only [List.getElem_toArray, List.getElem_cons_succ, List.getElem_cons_zero, Act.put, List.setIfInBounds_toArray, List.set_cons_zero, List.set_cons_succ]
        refine wpAnyH_take (i := 2) (oi := _) (v := ?_) rfl (by kernel_rfl) (by kernel_rfl) (by kernel_rfl) (fun _ _ _ h => h) (Or.inl ⟨by rfl, ?_⟩) (by assumption) ?_
        rotate_left 1
        · (intro w hSw; (try dsimp only at hSw); go_simp; try with_reducible rfl)
        try simp (maxSteps := 10000000) only [List.getElem_toArray, List.getElem_cons_succ, List.getElem_cons_zero, Act.put, List.setIfInBounds_toArray, List.set_cons_zero, List.set_cons_succ]
        refine wpAnyH_take (i := 3) (oi := _) (v := ?_) rfl (by kernel_rfl) (by kernel_rfl) (by kernel_rfl) (fun _ _ _ h => h) (Or.inl ⟨by rfl, ?_⟩) (by assumption) ?_
        rotate_left 1
        · (intro w hSw; (try dsimp only at hSw); go_simp; try with_reducible rfl)
        try simp (maxSteps := 10000000) only [List.getElem_toArray, List.getElem_cons_succ, List.getElem_cons_zero, Act.put, List.setIfInBounds_toArray, List.set_cons_zero, List.set_cons_succ]
        refine wpAnyH_take (i := 4) (oi := _) (v := ?_) rfl (by kernel_rfl) (by kernel_rfl) (by kernel_rfl) (fun _ _ _ h => h) (Or.inl ⟨by rfl, ?_⟩) (by assumption) ?_
        rotate_left 1
        · (intro w hSw; (try dsimp only at hSw); go_simp; try with_reducible rfl)
        try simp (maxSteps := 10000000) only [List.getElem_toArray, List.getElem_cons_succ, List.getElem_cons_zero, Act.put, List.setIfInBounds_toArray, List.set_cons_zero, List.set_cons_succ]
        refine wpAnyH_take (i := 5) (oi := _) (v := ?_) rfl (by kernel_rfl) (by kernel_rfl) (by kernel_rfl) (fun _ _ _ h => h) (Or.inl ⟨by rfl, ?_⟩) (by assumption) ?_
        rotate_left 1
        · (intro w hSw; (try dsimp only at hSw); go_simp; try with_reducible rfl)
        try simp (maxSteps := 10000000) only [List.getElem_toArray, List.getElem_cons_succ, List.getElem_cons_zero, Act.put, List.setIfInBounds_toArray, List.set_cons_zero, List.set_cons_succ]
        refine wpAnyH_take (i := 6) (oi := _) (v := ?_) rfl (by kernel_rfl) (by kernel_rfl) (by kernel_rfl) (fun _ _ _ h => h) (Or.inl ⟨by rfl, ?_⟩) (by assumption) ?_
        rotate_left 1
        · (intro w hSw; (try dsimp only at hSw); go_simp; try with_reducible rfl)
        try simp (maxSteps := 10000000) only [List.getElem_toArray, List.getElem_cons_succ, List.getElem_cons_zero, Act.put, List.setIfInBounds_toArray, List.set_cons_zero, List.set_cons_succ]
        refine wpAnyH_take (i := 7) (oi := _) (v := ?_) rfl (by kernel_rfl) (by kernel_rfl) (by kernel_rfl) (fun _ _ _ h => h) (Or.inl ⟨by rfl, ?_⟩) (by assumption) ?_
        rotate_left 1
        · (intro w hSw; (try dsimp only at hSw); go_simp; try with_reducible rfl)
        try simp (maxSteps := 10000000) only [List.getElem_toArray, List.getElem_cons_succ, List.getElem_cons_zero, Act.put, List.setIfInBounds_toArray, List.set_cons_zero, List.set_cons_succ]
        refine wpAnyH_ready (rs := [8]) (by kernel_rfl) (by simp) ?_
        refine AllReadyH.cons rfl (fun K hK => ?_) AllReadyH.nil
        go_simp
        refine HC.out.mono ?_
        rintro e q2 ⟨rfl, r2⟩
        try go_simp
        refine hK.out _ _ ?_ (fun hHeld => ?_)
        · first | exact hS.out _ (by assumption) | trivial
        clear hK K
        try simp (maxSteps := 10000000) only [List.getElem_toArray, List.getElem_cons_succ, List.getElem_cons_zero, Act.put, List.setIfInBounds_toArray, List.set_cons_zero, List.set_cons_succ]
        refine wpAnyH_take (i := 9) (oi := _) (v := ?_) rfl (by kernel_rfl) (by kernel_rfl) (by kernel_rfl) (fun _ _ _ h => h) (Or.inl ⟨by rfl, ?_⟩) (by assumption) ?_
        rotate_left 1
        · (intro w hSw; (try dsimp only at hSw); go_simp; try with_reducible rfl)
        try simp (maxSteps := 10000000) only [List.getElem_toArray, List.getElem_cons_succ, List.getElem_cons_zero, Act.put, List.setIfInBounds_toArray, List.set_cons_zero, List.set_cons_succ]
        refine wpAnyH_done (by kernel_rfl) ?_ _
        have hbe := below_and hbz (Nat.le_refl _) r2
        clear HC hS hk9 hbz r2 hHeld
        by_cases hY0 : Y = 0
        · have hcB : cnt (fun y => cT ti y == 0) ((isort l).take (j + 1)) = N2 + 1 := by rw [cnt_next Hxj.out, HN2.out, HY.out, hY0]; rfl
          have f1 : (Y == 0) = true := by rw [hY0]; rfl
          have HcB := hid hcB
          clear hcB hY0
          go_wp2
          go_roundg (l.length - (j + 1))
          case measure => omega
          case rel => exact ⟨j + 1, by omega, by rw [HcA.out]; try go_num, by rw [HcB.out]; go_num, by go_num, hbe⟩
        · have hcB : cnt (fun y => cT ti y == 0) ((isort l).take (j + 1)) = N2 := by
            rw [cnt_next Hxj.out, HN2.out, HY.out]
            have : (Y == 0) = false := by simp [hY0]
            rw [this]; rfl
          have f1 : (Y == 0) = false := by simp [hY0]
          have HcB := hid hcB
          clear hcB hY0
          go_wp2
          go_roundg (l.length - (j + 1))
          case measure => omega
          case rel => exact ⟨j + 1, by omega, by rw [HcA.out]; try go_num, by rw [HcB.out], by go_num, hbe⟩
      · have f1 : (X == 0) = false := by simp [hX0]
        have HcA : Hid (cnt (fun y => cT ti y == 0) (l.take (j + 1)) = N1) := hid (by rw [Hnx.out, f1]; rfl)
        clear hX0
        go_upto_region 21 with fail
        have hXw := tr_below HX.out hbw
        obtain ⟨qk, qneg, qod, qld, qcd, qnm, qn, qol, qll, qcl, qob, qlb, qcb, hTq, u0, u1, u2, u3, u4, u5, u6⟩ := hXw.get0 Hxj.out
        obtain ⟨pa', pk, pneg, pod, pld, pcd, pnm, pn, pol, pll, pcl, pob, plb, pcb, hpa, hTp, y0, y1, y2, y3, y4, y5, y6⟩ := HR.out.get Hti.out hbw
        obtain rfl := Option.some.inj hpa
        obtain ⟨Y, hY⟩ : ∃ Y, cT ti xj = Y := ⟨_, rfl⟩
        have hDr : Below wy.heap.size wy wy.drew := (Below.refl _ _).drew
        have HC := hid (show Calls Tryd.prog 11 #[tmV pk pneg (.slice pod pld pcd) pnm pn (.slice pol pll pcl) (.slice pob plb pcb), tmV qk qneg (.slice qod qld qcd) qnm qn (.slice qol qll qcl) (.slice qob qlb qcb)] wy.drew fun e w' => e = .returned (.int .i64 Y) ∧ Below wy.drew.heap.size wy.drew w' by
          have := Compare_o ti xj _ _ wy.drew (tv_below hTp hDr) (tv_below hTq hDr) Hfi.out.1 Hfx.out.1 Hfi.out.2.1 (HT.out _ (below_and B8 (Nat.le_refl _) hbw.drew))
          rw [hY] at this
          exact this)
        have HY := hid hY
        have hS : Hid (∀ w', Below wy.drew.heap.size wy.drew w' → (w'.cell? (pa.add (i * 7)) = some (.int .i64 pk) ∧ w'.cell? ⟨(pa.add (i * 7)).block, (pa.add (i * 7)).off + 1, none⟩ = some (.bool pneg) ∧ w'.cell? ⟨(pa.add (i * 7)).block, (pa.add (i * 7)).off + 2, none⟩ = some (.slice pod pld pcd) ∧ w'.cell? ⟨(pa.add (i * 7)).block, (pa.add (i * 7)).off + 3, none⟩ = some (.string pnm) ∧ w'.cell? ⟨(pa.add (i * 7)).block, (pa.add (i * 7)).off + 4, none⟩ = some (.int .i64 pn) ∧ w'.cell? ⟨(pa.add (i * 7)).block, (pa.add (i * 7)).off + 5, none⟩ = some (.slice pol pll pcl) ∧ w'.cell? ⟨(pa.add (i * 7)).block, (pa.add (i * 7)).off + 6, none⟩ = some (.slice pob plb pcb) ∧ w'.cell? ⟨g, j * 7, none⟩ = some (.int .i64 qk) ∧ w'.cell? ⟨g, j * 7 + 1, none⟩ = some (.bool qneg) ∧ w'.cell? ⟨g, j * 7 + 2, none⟩ = some (.slice qod qld qcd) ∧ w'.cell? ⟨g, j * 7 + 3, none⟩ = some (.string qnm) ∧ w'.cell? ⟨g, j * 7 + 4, none⟩ = some (.int .i64 qn) ∧ w'.cell? ⟨g, j * 7 + 5, none⟩ = some (.slice qol qll qcl) ∧ w'.cell? ⟨g, j * 7 + 6, none⟩ = some (.slice qob qlb qcb))) := hid (fun w' hb => by
          have q : ∀ {a : Addr} {v : Value}, wy.cell? a = some v → w'.cell? a = some v := fun h => (hb.cell (World.block_lt_of_cell? _ _ h)).trans h
          exact ⟨q y0, q y1, q y2, q y3, q y4, q y5, q y6, q u0, q u1, q u2, q u3, q u4, q u5, q u6⟩)
        have hk9 : Below wy.drew.heap.size wy.drew wy.drew := Below.refl _ _
        have hbz : Below w8.heap.size w8 wy.drew := hbw.drew
        clear hXw hTq hTp hDr y0 y1 y2 y3 y4 y5 y6 u0 u1 u2 u3 u4 u5 u6 hbw hY
        go_wp2_with fail
        refine wp_region_held_drew (S := fun w' => w'.cell? (pa.add (i * 7)) = some (.int .i64 pk) ∧ w'.cell? ⟨(pa.add (i * 7)).block, (pa.add (i * 7)).off + 1, none⟩ = some (.bool pneg) ∧ w'.cell? ⟨(pa.add (i * 7)).block, (pa.add (i * 7)).off + 2, none⟩ = some (.slice pod pld pcd) ∧ w'.cell? ⟨(pa.add (i * 7)).block, (pa.add (i * 7)).off + 3, none⟩ = some (.string pnm) ∧ w'.cell? ⟨(pa.add (i * 7)).block, (pa.add (i * 7)).off + 4, none⟩ = some (.int .i64 pn) ∧ w'.cell? ⟨(pa.add (i * 7)).block, (pa.add (i * 7)).off + 5, none⟩ = some (.slice pol pll pcl) ∧ w'.cell? ⟨(pa.add (i * 7)).block, (pa.add (i * 7)).off + 6, none⟩ = some (.slice pob plb pcb) ∧ w'.cell? ⟨g, j * 7, none⟩ = some (.int .i64 qk) ∧ w'.cell? ⟨g, j * 7 + 1, none⟩ = some (.bool qneg) ∧ w'.cell? ⟨g, j * 7 + 2, none⟩ = some (.slice qod qld qcd) ∧ w'.cell? ⟨g, j * 7 + 3, none⟩ = some (.string qnm) ∧ w'.cell? ⟨g, j * 7 + 4, none⟩ = some (.int .i64 qn) ∧ w'.cell? ⟨g, j * 7 + 5, none⟩ = some (.slice qol qll qcl) ∧ w'.cell? ⟨g, j * 7 + 6, none⟩ = some (.slice qob qlb qcb)) (by kernel_rfl) (by exact hS.out _ hk9) (fun hHeld => ?_)
        generalize wy.drew = V9 at *
        refine wpAnyH_take (i := 0) (oi := _) (v := ?_) rfl (by kernel_rfl) (by kernel_rfl) (by kernel_rfl) (fun _ _ _ h => h) (Or.inl ⟨by rfl, ?_⟩) (by assumption) ?_
        rotate_left 1
        · (intro w hSw; (try dsimp only at hSw); go_simp; try with_reducible rfl)
        try simp (maxSteps := 10000000) only [List.getElem_toArray, List.getElem_cons_succ, List.getElem_cons_zero, Act.put, List.setIfInBounds_toArray, List.set_cons_zero, List.set_cons_succ]
        refine wpAnyH_take (i := 1) (oi := _) (v := ?_) rfl (by kernel_rfl) (by kernel_rfl) (by kernel_rfl) (fun _ _ _ h => h) (Or.inl ⟨by rfl, ?_⟩) (by assumption) ?_
        rotate_left 1
        · (intro w hSw; (try dsimp only at hSw); go_simp; try with_reducible rfl)
        try simp (maxSteps := 10000000) only [List.getElem_toArray, List.getElem_cons_succ, List.getElem_cons_zero, Act.put, List.setIfInBounds_toArray, List.set_cons_zero, List.set_cons_succ]
        refine wpAnyH_take (i := 2) (oi := _) (v := ?_) rfl (by kernel_rfl) (by kernel_rfl) (by kernel_rfl) (fun _ _ _ h => h) (Or.inl ⟨by rfl, ?_⟩) (by assumption) ?_
        rotate_left 1
        · (intro w hSw; (try dsimp only at hSw); go_simp; try with_reducible rfl)
        try simp (maxSteps := 10000000) only [List.getElem_toArray, List.getElem_cons_succ, List.getElem_cons_zero, Act.put, List.setIfInBounds_toArray, List.set_cons_zero, List.set_cons_succ]
        refine wpAnyH_take (i := 3) (oi := _) (v := ?_) rfl (by kernel_rfl) (by kernel_rfl) (by kernel_rfl) (fun _ _ _ h => h) (Or.inl ⟨by rfl, ?_⟩) (by assumption) ?_
        rotate_left 1
        · (intro w hSw; (try dsimp only at hSw); go_simp; try with_reducible rfl)
        try simp (maxSteps := 10000000) only [List.getElem_toArray, List.getElem_cons_succ, List.getElem_cons_zero, Act.put, List.setIfInBounds_toArray, List.set_cons_zero, List.set_cons_succ]
        refine wpAnyH_take (i := 4) (oi := _) (v := ?_) rfl (by kernel_rfl) (by kernel_rfl) (by kernel_rfl) (fun _ _ _ h => h) (Or.inl ⟨by rfl, ?_⟩) (by assumption) ?_
        rotate_left 1
        · (intro w hSw; (try dsimp only at hSw); go_simp; try with_reducible rfl)
        try simp (maxSteps := 10000000) only [List.getElem_toArray, List.getElem_cons_succ, List.getElem_cons_zero, Act.put, List.setIfInBounds_toArray, List.set_cons_zero, List.set_cons_succ]
        refine wpAnyH_take (i := 5) (oi := _) (v := ?_) rfl (by kernel_rfl) (by kernel_rfl) (by kernel_rfl) (fun _ _ _ h => h) (Or.inl ⟨by rfl, ?_⟩) (by assumption) ?_
        rotate_left 1
        · (intro w hSw; (try dsimp only at hSw); go_simp; try with_reducible rfl)
        try simp (maxSteps := 10000000) only [List.getElem_toArray, List.getElem_cons_succ, List.getElem_cons_zero, Act.put, List.setIfInBounds_toArray, List.set_cons_zero, List.set_cons_succ]
        refine wpAnyH_take (i := 6) (oi := _) (v := ?_) rfl (by kernel_rfl) (by kernel_rfl) (by kernel_rfl) (fun _ _ _ h => h) (Or.inl ⟨by rfl, ?_⟩) (by assumption) ?_
        rotate_left 1
        · (intro w hSw; (try dsimp only at hSw); go_simp; try with_reducible rfl)
        try simp (maxSteps := 10000000) only [List.getElem_toArray, List.getElem_cons_succ, List.getElem_cons_zero, Act.put, List.setIfInBounds_toArray, List.set_cons_zero, List.set_cons_succ]
        refine wpAnyH_take (i := 7) (oi := _) (v := ?_) rfl (by kernel_rfl) (by kernel_rfl) (by kernel_rfl) (fun _ _ _ h => h) (Or.inl ⟨by rfl, ?_⟩) (by assumption) ?_
        rotate_left 1
        · (intro w hSw; (try dsimp only at hSw); go_simp; try with_reducible rfl)
        try simp (maxSteps := 10000000) only [List.getElem_toArray, List.getElem_cons_succ, List.getElem_cons_zero, Act.put, List.setIfInBounds_toArray, List.set_cons_zero, List.set_cons_succ]
        refine wpAnyH_ready (rs := [8]) (by kernel_rfl) (by simp) ?_
        refine AllReadyH.cons rfl (fun K hK => ?_) AllReadyH.nil
        go_simp
        refine HC.out.mono ?_
        rintro e q2 ⟨rfl, r2⟩
        try go_simp
        refine hK.out _ _ ?_ (fun hHeld => ?_)
        · first | exact hS.out _ (by assumption) | trivial
        clear hK K
        try simp (maxSteps := 10000000) only [List.getElem_toArray, List.getElem_cons_succ, List.getElem_cons_zero, Act.put, List.setIfInBounds_toArray, List.set_cons_zero, List.set_cons_succ]
        refine wpAnyH_take (i := 9) (oi := _) (v := ?_) rfl (by kernel_rfl) (by kernel_rfl) (by kernel_rfl) (fun _ _ _ h => h) (Or.inl ⟨by rfl, ?_⟩) (by assumption) ?_
        rotate_left 1
        · (intro w hSw; (try dsimp only at hSw); go_simp; try with_reducible rfl)
        try simp (maxSteps := 10000000) only [List.getElem_toArray, List.getElem_cons_succ, List.getElem_cons_zero, Act.put, List.setIfInBounds_toArray, List.set_cons_zero, List.set_cons_succ]
        refine wpAnyH_done (by kernel_rfl) ?_ _
        have hbe := below_and hbz (Nat.le_refl _) r2
        clear HC hS hk9 hbz r2 hHeld
        by_cases hY0 : Y = 0
        · have hcB : cnt (fun y => cT ti y == 0) ((isort l).take (j + 1)) = N2 + 1 := by rw [cnt_next Hxj.out, HN2.out, HY.out, hY0]; rfl
          have f1 : (Y == 0) = true := by rw [hY0]; rfl
          have HcB := hid hcB
          clear hcB hY0
          go_wp2
          go_roundg (l.length - (j + 1))
          case measure => omega
          case rel => exact ⟨j + 1, by omega, by rw [HcA.out]; try go_num, by rw [HcB.out]; go_num, by go_num, hbe⟩
        · have hcB : cnt (fun y => cT ti y == 0) ((isort l).take (j + 1)) = N2 := by
            rw [cnt_next Hxj.out, HN2.out, HY.out]
            have : (Y == 0) = false := by simp [hY0]
            rw [this]; rfl
          have f1 : (Y == 0) = false := by simp [hY0]
          have HcB := hid hcB
          clear hcB hY0
          go_wp2
          go_roundg (l.length - (j + 1))
          case measure => omega
          case rel => exact ⟨j + 1, by omega, by rw [HcA.out]; try go_num, by rw [HcB.out], by go_num, hbe⟩
end Go.Proofs.YtpdoepjnkgffpaaDoor.orderStable
