/- OrderSorts, walked. -/
import Derived.Test.YtpdoepjnkgffpaaDoorSortFacts
namespace Go.Proofs.YtpdoepjnkgffpaaDoor.orderSorts
open Go.ChangeShapes Go.WideShapes Go.ChangeAt Go.ChangeMaps Go.RowKit Go.Shelf
set_option linter.unusedSimpArgs false
set_option linter.unusedVariables false
set_option maxRecDepth 2000
set_option maxHeartbeats 4000000 in
set_option maxRecDepth 8000 in
theorem walk {H : Type} (enc : TypeId × Value → H) (base : Nat) (w : World) (v0 : Value) (d0 : DataW H) (p0 : List MemPlace)
    (o0 : Value.okWide Tryd.prog w .any base 22 v0) (h0 : DataW.Trod enc Tryd.prog w 0 (fun _ => true) true 22 v0 d0 p0)
    (hT : Tabs w) :
    Calls Tryd.prog 4 #[v0] w fun e w' => e = .returned (.bool true) ∧ Below w.heap.size w w' := by
  obtain ⟨o, l, c, rfl, hR0, hlc⟩ := open_terms o0 h0
  clear o0 h0
  go_enter Tryd.func4, Tryd.ntmps4
  go_wp2_with fail
  refine (awake6_w _ hT).mono ?_
  rintro e w1 ⟨rfl, B1⟩
  have hR1 := tr_below hR0 B1
  go_wp2_with fail
  refine (Rooms_w 20 (by omega) l o c _ hR1 (hT.below B1)).mono ?_
  rintro e w2 ⟨rfl, b2⟩
  have B2 := below_and B1 (Nat.le_refl _) b2
  have hR2 := tr_below hR1 b2
  obtain ⟨bb, hbb⟩ : ∃ bb, (decide (l.length ≤ 20) && l.all okRow) = bb := ⟨_, rfl⟩
  rw [hbb]
  cases bb with
  | false =>
    clear hbb
    go_wp2
    go_ret
    exact ⟨rfl, B2⟩
  | true =>
  rw [Bool.and_eq_true] at hbb
  have hl20 : l.length ≤ 20 := of_decide_eq_true hbb.1
  have Hf := hid (rooms_all hR2 hbb.2)
  have HT := hid (fun w' (hk : Below w.heap.size w w') => hT.below hk)
  clear hbb hR0 hR1 B1 b2 hT
  go_wp2_with fail
  refine (Sort_o l o c _ hl20 hR2 Hf.out (HT.out _ B2)).mono ?_
  rintro e w3 ⟨g, c', rfl, _, hX3, b3⟩
  have B3 := below_and B2 (Nat.le_refl _) b3
  have hR3 := tr_below hR2 b3
  clear B2 hR2 b3
  cases l with
  | nil =>
    simp only [List.length_nil] at *
    go_wp2_with fail
    refine (Max_nil o c _).mono ?_
    rintro e w4 ⟨rfl, b4⟩
    have b5 : Below w4.heap.size w4 (w4.alloc (.cells #[.int .i64 0, .bool false, .slice none 0 0, .string { data := #[] }, .int .i64 0, .slice none 0 0, .slice none 0 0] 31)) := (Below.refl _ _).alloc (Nat.le_refl _) _
    have B5 := below_and B3 (Nat.le_refl _) (below_and b4 (Nat.le_refl _) b5)
    have hX5 := tr_below (tr_below hX3 b4) b5
    have hR5 := tr_below (tr_below hR3 b4) b5
    have HT5 := HT.out _ B5
    clear b4 b5 hX3 hR3 B3
    go_upto_region 7 with fail
    generalize (w4.alloc (.cells #[.int .i64 0, .bool false, .slice none 0 0, .string { data := #[] }, .int .i64 0, .slice none 0 0, .slice none 0 0] 31)) = w5 at *
    go_wp2_with fail
    refine (rSort_w [] o c w5 (by decide) hR5 Hf.out HT5).mono ?_
    rintro e w6 ⟨o', c6, rfl, hX6, b6⟩
    have B6 := below_and B5 (Nat.le_refl _) b6
    go_wp2_with fail
    refine (rSameRow_w [] [] (some ⟨g, 0, none⟩) o' c' c6 w6 (by decide) (by decide) (by simp [partsL]) (by simp [partsL]) (tr_below hX5 b6) hX6 (HT.out _ B6)).mono ?_
    rintro e w7 ⟨rfl, b7⟩
    have B7 := below_and B6 (Nat.le_refl _) b7
    have hs : sameL [] [] = true := rfl
    rw [hs]
    clear hX5 hR5 hX6 B5 B6 b6 b7 hs
    go_wp2_with fail
    refine wp_region_held_drew (S := fun _ => True) (by kernel_rfl) trivial (fun hHeld => ?_)
    have B8 : Below w.heap.size w w7.drew := B7.drew
    generalize w7.drew = V at *
    refine wpAnyH_take (i := 0) (oi := _) (v := ?_) rfl (by kernel_rfl) (by kernel_rfl) (by kernel_rfl) (fun _ _ _ h => h) (Or.inl ⟨by rfl, ?_⟩) (by assumption) ?_
    rotate_left 1
    · (intro w hSw; (try dsimp only at hSw); go_simp; try with_reducible rfl)
    try simp (maxSteps := 10000000) only [List.getElem_toArray, List.getElem_cons_succ, List.getElem_cons_zero, Act.put, List.setIfInBounds_toArray, List.set_cons_zero, List.set_cons_succ]
    refine wpAnyH_take (i := 1) (oi := _) (v := ?_) rfl (by kernel_rfl) (by kernel_rfl) (by kernel_rfl) (fun _ _ _ h => h) (Or.inl ⟨by rfl, ?_⟩) (by assumption) ?_
    rotate_left 1
    · (intro w hSw; (try dsimp only at hSw); go_simp; try with_reducible rfl)
    try simp (maxSteps := 10000000) only [List.getElem_toArray, List.getElem_cons_succ, List.getElem_cons_zero, Act.put, List.setIfInBounds_toArray, List.set_cons_zero, List.set_cons_succ]
    refine wpAnyH_take (i := 2) (oi := _) (v := ?_) rfl (by kernel_rfl) (by kernel_rfl) (by kernel_rfl) (fun _ _ _ h => h) (Or.inl ⟨by rfl, ?_⟩) (by assumption) ?_
    rotate_left 1
    · (intro w hSw; (try dsimp only at hSw); go_simp; try with_reducible rfl)
    try simp (maxSteps := 10000000) only [List.getElem_toArray, List.getElem_cons_succ, List.getElem_cons_zero, Act.put, List.setIfInBounds_toArray, List.set_cons_zero, List.set_cons_succ]
    refine wpAnyH_take (i := 3) (oi := _) (v := undef) rfl (by kernel_rfl) (by kernel_rfl) (by kernel_rfl) (fun _ _ _ h => h) (Or.inr ⟨by rfl, rfl⟩) (by assumption) ?_
    try simp (maxSteps := 10000000) only [List.getElem_toArray, List.getElem_cons_succ, List.getElem_cons_zero, Act.put, List.setIfInBounds_toArray, List.set_cons_zero, List.set_cons_succ]
    refine wpAnyH_take (i := 4) (oi := _) (v := undef) rfl (by kernel_rfl) (by kernel_rfl) (by kernel_rfl) (fun _ _ _ h => h) (Or.inr ⟨by rfl, rfl⟩) (by assumption) ?_
    try simp (maxSteps := 10000000) only [List.getElem_toArray, List.getElem_cons_succ, List.getElem_cons_zero, Act.put, List.setIfInBounds_toArray, List.set_cons_zero, List.set_cons_succ]
    refine wpAnyH_take (i := 5) (oi := _) (v := undef) rfl (by kernel_rfl) (by kernel_rfl) (by kernel_rfl) (fun _ _ _ h => h) (Or.inr ⟨by rfl, rfl⟩) (by assumption) ?_
    try simp (maxSteps := 10000000) only [List.getElem_toArray, List.getElem_cons_succ, List.getElem_cons_zero, Act.put, List.setIfInBounds_toArray, List.set_cons_zero, List.set_cons_succ]
    refine wpAnyH_take (i := 6) (oi := _) (v := undef) rfl (by kernel_rfl) (by kernel_rfl) (by kernel_rfl) (fun _ _ _ h => h) (Or.inr ⟨by rfl, rfl⟩) (by assumption) ?_
    try simp (maxSteps := 10000000) only [List.getElem_toArray, List.getElem_cons_succ, List.getElem_cons_zero, Act.put, List.setIfInBounds_toArray, List.set_cons_zero, List.set_cons_succ]
    refine wpAnyH_take (i := 7) (oi := _) (v := undef) rfl (by kernel_rfl) (by kernel_rfl) (by kernel_rfl) (fun _ _ _ h => h) (Or.inr ⟨by rfl, rfl⟩) (by assumption) ?_
    try simp (maxSteps := 10000000) only [List.getElem_toArray, List.getElem_cons_succ, List.getElem_cons_zero, Act.put, List.setIfInBounds_toArray, List.set_cons_zero, List.set_cons_succ]
    refine wpAnyH_take (i := 8) (oi := _) (v := undef) rfl (by kernel_rfl) (by kernel_rfl) (by kernel_rfl) (fun _ _ _ h => h) (Or.inr ⟨by rfl, rfl⟩) (by assumption) ?_
    try simp (maxSteps := 10000000) only [List.getElem_toArray, List.getElem_cons_succ, List.getElem_cons_zero, Act.put, List.setIfInBounds_toArray, List.set_cons_zero, List.set_cons_succ]
    refine wpAnyH_take (i := 9) (oi := _) (v := undef) rfl (by kernel_rfl) (by kernel_rfl) (by kernel_rfl) (fun _ _ _ h => h) (Or.inr ⟨by rfl, rfl⟩) (by assumption) ?_
    try simp (maxSteps := 10000000) only [List.getElem_toArray, List.getElem_cons_succ, List.getElem_cons_zero, Act.put, List.setIfInBounds_toArray, List.set_cons_zero, List.set_cons_succ]
    refine wpAnyH_take (i := 10) (oi := _) (v := undef) rfl (by kernel_rfl) (by kernel_rfl) (by kernel_rfl) (fun _ _ _ h => h) (Or.inr ⟨by rfl, rfl⟩) (by assumption) ?_
    try simp (maxSteps := 10000000) only [List.getElem_toArray, List.getElem_cons_succ, List.getElem_cons_zero, Act.put, List.setIfInBounds_toArray, List.set_cons_zero, List.set_cons_succ]
    refine wpAnyH_take (i := 11) (oi := _) (v := ?_) rfl (by kernel_rfl) (by kernel_rfl) (by kernel_rfl) (fun _ _ _ h => h) (Or.inl ⟨by rfl, ?_⟩) (by assumption) ?_
    rotate_left 1
    · (intro w hSw; (try dsimp only at hSw); go_simp; try with_reducible rfl)
    try simp (maxSteps := 10000000) only [List.getElem_toArray, List.getElem_cons_succ, List.getElem_cons_zero, Act.put, List.setIfInBounds_toArray, List.set_cons_zero, List.set_cons_succ]
    refine wpAnyH_take (i := 12) (oi := _) (v := ?_) rfl (by kernel_rfl) (by kernel_rfl) (by kernel_rfl) (fun _ _ _ h => h) (Or.inl ⟨by rfl, ?_⟩) (by assumption) ?_
    rotate_left 1
    · (intro w hSw; (try dsimp only at hSw); go_simp; try with_reducible rfl)
    try simp (maxSteps := 10000000) only [List.getElem_toArray, List.getElem_cons_succ, List.getElem_cons_zero, Act.put, List.setIfInBounds_toArray, List.set_cons_zero, List.set_cons_succ]
    refine wpAnyH_done (by kernel_rfl) ?_ _
    go_wp2
    go_ret
    exact ⟨rfl, B8⟩
  | cons t0 l =>
    obtain ⟨z, hz, hmz⟩ := mx_isort t0 l (okT_wf Hf.out)
    have Hz := hid (And.intro hz hmz)
    have hil := isort_len (t0 :: l)
    have hle : (t0 :: l).length = l.length + 1 := rfl
    rw [hle] at hil
    have hw := hid (sameL_id (okT_wf (okT_sort Hf.out)))
    have hpo := hid (okT_parts (okT_sort Hf.out))
    have hzo : Hid (∀ p ∈ parts z, p.ok1) := hid (fun p hp => ((okT_sort Hf.out z (List.mem_of_getElem? hz)).2.2.2 p hp).1)
    have hmo : Hid (∀ p ∈ parts (mx t0 l), p.ok1) := hid (fun p hp => ((Hf.out _ (by rcases mx_mem t0 l with h | h <;> simp [h])).2.2.2 p hp).1)
    simp only [List.length_cons] at hl20 hlc
    have hl19 : l.length ≤ 20 := by omega
    clear hz hmz hle
    simp only [List.length_cons]
    go_wp2_with fail
    refine (Max_o t0 l o c _ hl19 hlc hR3 Hf.out (HT.out _ B3)).mono ?_
    rintro e w4 ⟨v4, rfl, hV4, b4⟩
    obtain ⟨mk, mneg, mod, mld, mcd, mnm, mn, mol, mll, mcl, mob, mlb, mcb, rfl⟩ := hV4.form
    have b5 : Below w4.heap.size w4 (w4.alloc (.cells #[.int .i64 mk, .bool mneg, .slice mod mld mcd, .string mnm, .int .i64 mn, .slice mol mll mcl, .slice mob mlb mcb] 31)) := (Below.refl _ _).alloc (Nat.le_refl _) _
    have kM := Bx.new w4 (.int .i64 mk) (.bool mneg) (.slice mod mld mcd) (.string mnm) (.int .i64 mn) (.slice mol mll mcl) (.slice mob mlb mcb) 31
    have B5 := below_and B3 (Nat.le_refl _) (below_and b4 (Nat.le_refl _) b5)
    have hX5 := tr_below (tr_below hX3 b4) b5
    have hR5 := tr_below (tr_below hR3 b4) b5
    have hV5 := tv_below hV4 b5
    have HT5 := HT.out _ B5
    clear b4 b5 hX3 hR3 B3 hV4
    go_upto_region 7 with fail
    generalize (w4.alloc (.cells #[.int .i64 mk, .bool mneg, .slice mod mld mcd, .string mnm, .int .i64 mn, .slice mol mll mcl, .slice mob mlb mcb] 31)) = w5 at *
    go_wp2_with fail
    refine (rSort_w (t0 :: l) o c w5 hl20 hR5 Hf.out HT5).mono ?_
    rintro e w6 ⟨o', c6, rfl, hX6, b6⟩
    have B6 := below_and B5 (Nat.le_refl _) b6
    have kM6 := kM.below b6
    have hV6 := tv_below hV5 b6
    have hX65 := tr_below hX5 b6
    have hcall := rSameRow_w (isort (t0 :: l)) (isort (t0 :: l)) (some ⟨g, 0, none⟩) o' c' c6 w6 (by rw [hil]; omega) (by rw [hil]; omega) hpo.out hpo.out hX65 hX6 (HT.out _ B6)
    rw [hil, hw.out] at hcall
    clear hX5 hR5 B5 b6 kM hV5 hX6
    simp only [List.length_cons]
    go_wp2_with fail
    refine hcall.mono ?_
    rintro e w7 ⟨rfl, b7⟩
    have B7 := below_and B6 (Nat.le_refl _) b7
    have kM7 := kM6.below b7
    have hV7 := tv_below hV6 b7
    have hX7 := tr_below hX65 b7
    clear hcall kM6 hV6 hX65 B6 b7
    obtain ⟨zk, zneg, zod, zld, zcd, znm, zn, zol, zll, zcl, zob, zlb, zcb, hZ7, z0, z1, z2, z3, z4, z5, z6⟩ := hX7.get0 Hz.out.1
    have hl0 : (0 : Int) < (l.length : Int) + 1 := by omega
    have hl1 : (0 : Int) ≤ (l.length : Int) + 1 := by omega
    have hin : (l.length : Int) < (l.length : Int) + 1 := by omega
    have hpw : IntKind.i64.wrap (l.length : Int) = (l.length : Int) := by rw [IntKind.wrap_i64]; omega
    have hDr : Below w7.heap.size w7 w7.drew := (Below.refl _ _).drew
    have B8 : Below w.heap.size w w7.drew := B7.drew
    have kM8 := kM7.below hDr
    have HC := hid (show Calls Tryd.prog 14 #[tmV mk mneg (.slice mod mld mcd) mnm mn (.slice mol mll mcl) (.slice mob mlb mcb), tmV zk zneg (.slice zod zld zcd) znm zn (.slice zol zll zcl) (.slice zob zlb zcb)] w7.drew fun e w' => e = .returned (.bool true) ∧ Below w7.drew.heap.size w7.drew w' by
      have := rSame_w (mx t0 l) z _ _ w7.drew hmo.out hzo.out (tv_below hV7 hDr) (tv_below hZ7 hDr) (HT.out _ B8)
      rw [Hz.out.2] at this
      exact this)
    have hS : Hid (∀ w', Below w7.drew.heap.size w7.drew w' → (w'.cell? ⟨w4.heap.size, 0, none⟩ = some (.int .i64 mk) ∧ w'.cell? ⟨w4.heap.size, 1, none⟩ = some (.bool mneg) ∧ w'.cell? ⟨w4.heap.size, 2, none⟩ = some (.slice mod mld mcd) ∧ w'.cell? ⟨w4.heap.size, 3, none⟩ = some (.string mnm) ∧ w'.cell? ⟨w4.heap.size, 4, none⟩ = some (.int .i64 mn) ∧ w'.cell? ⟨w4.heap.size, 5, none⟩ = some (.slice mol mll mcl) ∧ w'.cell? ⟨w4.heap.size, 6, none⟩ = some (.slice mob mlb mcb) ∧ w'.cell? ⟨g, l.length * 7, none⟩ = some (.int .i64 zk) ∧ w'.cell? ⟨g, l.length * 7 + 1, none⟩ = some (.bool zneg) ∧ w'.cell? ⟨g, l.length * 7 + 2, none⟩ = some (.slice zod zld zcd) ∧ w'.cell? ⟨g, l.length * 7 + 3, none⟩ = some (.string znm) ∧ w'.cell? ⟨g, l.length * 7 + 4, none⟩ = some (.int .i64 zn) ∧ w'.cell? ⟨g, l.length * 7 + 5, none⟩ = some (.slice zol zll zcl) ∧ w'.cell? ⟨g, l.length * 7 + 6, none⟩ = some (.slice zob zlb zcb))) := hid (fun w' hb => by
      have q : ∀ {a : Addr} {v : Value}, w7.cell? a = some v → w'.cell? a = some v := fun h => (hb.cell (World.block_lt_of_cell? _ _ h)).trans h
      obtain ⟨m0, m1, m2, m3, m4, m5, m6⟩ := kM7.res
      exact ⟨q m0, q m1, q m2, q m3, q m4, q m5, q m6, q z0, q z1, q z2, q z3, q z4, q z5, q z6⟩)
    have hk0 : Below w7.drew.heap.size w7.drew w7.drew := Below.refl _ _
    clear hV7 hX7 hZ7 z0 z1 z2 z3 z4 z5 z6 kM7 kM8 hDr B7 HT5
    go_wp2_with fail
    refine wp_region_held_drew (S := fun w' => w'.cell? ⟨w4.heap.size, 0, none⟩ = some (.int .i64 mk) ∧ w'.cell? ⟨w4.heap.size, 1, none⟩ = some (.bool mneg) ∧ w'.cell? ⟨w4.heap.size, 2, none⟩ = some (.slice mod mld mcd) ∧ w'.cell? ⟨w4.heap.size, 3, none⟩ = some (.string mnm) ∧ w'.cell? ⟨w4.heap.size, 4, none⟩ = some (.int .i64 mn) ∧ w'.cell? ⟨w4.heap.size, 5, none⟩ = some (.slice mol mll mcl) ∧ w'.cell? ⟨w4.heap.size, 6, none⟩ = some (.slice mob mlb mcb) ∧ w'.cell? ⟨g, l.length * 7, none⟩ = some (.int .i64 zk) ∧ w'.cell? ⟨g, l.length * 7 + 1, none⟩ = some (.bool zneg) ∧ w'.cell? ⟨g, l.length * 7 + 2, none⟩ = some (.slice zod zld zcd) ∧ w'.cell? ⟨g, l.length * 7 + 3, none⟩ = some (.string znm) ∧ w'.cell? ⟨g, l.length * 7 + 4, none⟩ = some (.int .i64 zn) ∧ w'.cell? ⟨g, l.length * 7 + 5, none⟩ = some (.slice zol zll zcl) ∧ w'.cell? ⟨g, l.length * 7 + 6, none⟩ = some (.slice zob zlb zcb)) (by kernel_rfl) (by exact hS.out _ hk0) (fun hHeld => ?_)
    generalize w7.drew = V at *
    skip
    refine wpAnyH_take (i := 0) (oi := _) (v := ?_) rfl (by kernel_rfl) (by kernel_rfl) (by kernel_rfl) (fun _ _ _ h => h) (Or.inl ⟨by rfl, ?_⟩) (by assumption) ?_
    rotate_left 1
    · (intro w hSw; (try dsimp only at hSw); go_simp; try with_reducible rfl)
    try simp (maxSteps := 10000000) only [List.getElem_toArray, List.getElem_cons_succ, List.getElem_cons_zero, Act.put, List.setIfInBounds_toArray, List.set_cons_zero, List.set_cons_succ]
    refine wpAnyH_take (i := 1) (oi := _) (v := ?_) rfl (by kernel_rfl) (by kernel_rfl) (by kernel_rfl) (fun _ _ _ h => h) (Or.inl ⟨by rfl, ?_⟩) (by assumption) ?_
    rotate_left 1
    · (intro w hSw; (try dsimp only at hSw); go_simp; try with_reducible rfl)
    try simp (maxSteps := 10000000) only [List.getElem_toArray, List.getElem_cons_succ, List.getElem_cons_zero, Act.put, List.setIfInBounds_toArray, List.set_cons_zero, List.set_cons_succ]
    refine wpAnyH_take (i := 2) (oi := _) (v := ?_) rfl (by kernel_rfl) (by kernel_rfl) (by kernel_rfl) (fun _ _ _ h => h) (Or.inl ⟨by rfl, ?_⟩) (by assumption) ?_
    rotate_left 1
    · (intro w hSw; (try dsimp only at hSw); go_simp; try with_reducible rfl)
    try simp (maxSteps := 10000000) only [List.getElem_toArray, List.getElem_cons_succ, List.getElem_cons_zero, Act.put, List.setIfInBounds_toArray, List.set_cons_zero, List.set_cons_succ]
    refine wpAnyH_take (i := 3) (oi := _) (v := ?_) rfl (by kernel_rfl) (by kernel_rfl) (by kernel_rfl) (fun _ _ _ h => h) (Or.inl ⟨by rfl, ?_⟩) (by assumption) ?_
    rotate_left 1
    · (intro w hSw; (try dsimp only at hSw); go_simp; try with_reducible rfl)
    try simp (maxSteps := 10000000) only [List.getElem_toArray, List.getElem_cons_succ, List.getElem_cons_zero, Act.put, List.setIfInBounds_toArray, List.set_cons_zero, List.set_cons_succ]
    refine wpAnyH_take (i := 4) (oi := _) (v := ?_) rfl (by kernel_rfl) (by kernel_rfl) (by kernel_rfl) (fun _ _ _ h => h) (Or.inl ⟨by rfl, ?_⟩) (by assumption) ?_
    rotate_left 1
    · (intro w hSw; (try dsimp only at hSw); go_simp; try with_reducible rfl)
    try simp (maxSteps := 10000000) only [List.getElem_toArray, List.getElem_cons_succ, List.getElem_cons_zero, Act.put, List.setIfInBounds_toArray, List.set_cons_zero, List.set_cons_succ]
    refine wpAnyH_take (i := 5) (oi := _) (v := ?_) rfl (by kernel_rfl) (by kernel_rfl) (by kernel_rfl) (fun _ _ _ h => h) (Or.inl ⟨by rfl, ?_⟩) (by assumption) ?_
    rotate_left 1
    · (intro w hSw; (try dsimp only at hSw); go_simp; try with_reducible rfl)
    try simp (maxSteps := 10000000) only [List.getElem_toArray, List.getElem_cons_succ, List.getElem_cons_zero, Act.put, List.setIfInBounds_toArray, List.set_cons_zero, List.set_cons_succ]
    refine wpAnyH_take (i := 6) (oi := _) (v := ?_) rfl (by kernel_rfl) (by kernel_rfl) (by kernel_rfl) (fun _ _ _ h => h) (Or.inl ⟨by rfl, ?_⟩) (by assumption) ?_
    rotate_left 1
    · (intro w hSw; (try dsimp only at hSw); go_simp; try with_reducible rfl)
    try simp (maxSteps := 10000000) only [List.getElem_toArray, List.getElem_cons_succ, List.getElem_cons_zero, Act.put, List.setIfInBounds_toArray, List.set_cons_zero, List.set_cons_succ]
    refine wpAnyH_take (i := 7) (oi := _) (v := ?_) rfl (by kernel_rfl) (by kernel_rfl) (by kernel_rfl) (fun _ _ _ h => h) (Or.inl ⟨by rfl, ?_⟩) (by assumption) ?_
    rotate_left 1
    · (intro w hSw; (try dsimp only at hSw); go_simp; try with_reducible rfl)
    try simp (maxSteps := 10000000) only [List.getElem_toArray, List.getElem_cons_succ, List.getElem_cons_zero, Act.put, List.setIfInBounds_toArray, List.set_cons_zero, List.set_cons_succ]
    refine wpAnyH_take (i := 8) (oi := _) (v := ?_) rfl (by kernel_rfl) (by kernel_rfl) (by kernel_rfl) (fun _ _ _ h => h) (Or.inl ⟨by rfl, ?_⟩) (by assumption) ?_
    rotate_left 1
    · (intro w hSw; (try dsimp only at hSw); go_simp; try with_reducible rfl)
    try simp (maxSteps := 10000000) only [List.getElem_toArray, List.getElem_cons_succ, List.getElem_cons_zero, Act.put, List.setIfInBounds_toArray, List.set_cons_zero, List.set_cons_succ]
    refine wpAnyH_take (i := 9) (oi := _) (v := ?_) rfl (by kernel_rfl) (by kernel_rfl) (by kernel_rfl) (fun _ _ _ h => h) (Or.inl ⟨by rfl, ?_⟩) (by assumption) ?_
    rotate_left 1
    · (intro w hSw; (try dsimp only at hSw); go_simp; try with_reducible rfl)
    try simp (maxSteps := 10000000) only [List.getElem_toArray, List.getElem_cons_succ, List.getElem_cons_zero, Act.put, List.setIfInBounds_toArray, List.set_cons_zero, List.set_cons_succ]
    refine wpAnyH_ready (rs := [10]) (by kernel_rfl) (by simp) ?_
    refine AllReadyH.cons rfl (fun K hK => ?_) AllReadyH.nil
    go_simp
    refine HC.out.mono ?_
    rintro e w8 ⟨rfl, b8⟩
    try go_simp
    refine hK.out _ _ ?_ (fun hHeld => ?_)
    · exact hS.out _ (by assumption)
    clear hK K
    try simp (maxSteps := 10000000) only [List.getElem_toArray, List.getElem_cons_succ, List.getElem_cons_zero, Act.put, List.setIfInBounds_toArray, List.set_cons_zero, List.set_cons_succ]
    refine wpAnyH_take (i := 11) (oi := _) (v := ?_) rfl (by kernel_rfl) (by kernel_rfl) (by kernel_rfl) (fun _ _ _ h => h) (Or.inl ⟨by rfl, ?_⟩) (by assumption) ?_
    rotate_left 1
    · (intro w hSw; (try dsimp only at hSw); go_simp; try with_reducible rfl)
    try simp (maxSteps := 10000000) only [List.getElem_toArray, List.getElem_cons_succ, List.getElem_cons_zero, Act.put, List.setIfInBounds_toArray, List.set_cons_zero, List.set_cons_succ]
    refine wpAnyH_take (i := 12) (oi := _) (v := ?_) rfl (by kernel_rfl) (by kernel_rfl) (by kernel_rfl) (fun _ _ _ h => h) (Or.inl ⟨by rfl, ?_⟩) (by assumption) ?_
    rotate_left 1
    · (intro w hSw; (try dsimp only at hSw); go_simp; try with_reducible rfl)
    try simp (maxSteps := 10000000) only [List.getElem_toArray, List.getElem_cons_succ, List.getElem_cons_zero, Act.put, List.setIfInBounds_toArray, List.set_cons_zero, List.set_cons_succ]
    refine wpAnyH_done (by kernel_rfl) ?_ _
    have B9 := below_and B8 (Nat.le_refl _) b8
    go_wp2
    go_ret
    exact ⟨rfl, B9⟩
end Go.Proofs.YtpdoepjnkgffpaaDoor.orderSorts
