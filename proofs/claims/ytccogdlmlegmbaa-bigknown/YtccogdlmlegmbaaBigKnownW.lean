/- BigKnown, walked. -/
import Derived.Test.YtccogdlmlegmbaaBigParse
namespace Go.Proofs.Ytccogdlmlegmbaa.bigKnown
open Go.ChangeShapes Go.WideShapes Go.ChangeAt Go.ChangeMaps Go.RowKit Go.Shelf
set_option linter.unusedSimpArgs false
set_option linter.unusedVariables false
theorem txt_m3 : txt (-3) = [45, 51] := by
  have h := glim_canon (b := 10) (by omega) (l := [3]) (by intro x hx; revert x; decide) (by intro x hx; simp at hx; omega)
  rw [show gval 10 [3] = 3 from rfl] at h
  unfold txt txtN
  rw [if_neg (by decide), show (-3 : Int).natAbs = 3 from rfl, h]; decide
theorem txt_m1 : txt (-1) = [45, 49] := by
  have h := glim_canon (b := 10) (by omega) (l := [1]) (by intro x hx; revert x; decide) (by intro x hx; simp at hx; omega)
  rw [show gval 10 [1] = 1 from rfl] at h
  unfold txt txtN
  rw [if_neg (by decide), show (-1 : Int).natAbs = 1 from rfl, h]; decide
theorem pE_m0 : pE [45, 48] = 10 := by unfold pE; rw [if_neg (by decide)]
theorem pE_01 : pE [48, 49] = 10 := by unfold pE; rw [if_neg (by decide)]
theorem pE_m12 : pE [45, 49, 50] = 0 := by
  have hl := pval_len (d := pdig [45, 49, 50]) (by decide)
  have hd : (pdig [45, 49, 50]).length = 2 := by decide
  unfold pE; rw [if_pos (by decide), if_neg (by omega)]
theorem pZ_m12 : pZ [45, 49, 50] = -12 := by unfold pZ; rw [if_pos pE_m12]; decide
set_option maxHeartbeats 4000000 in
theorem walk {H : Type} (enc : TypeId × Value → H) (base : Nat) (w : World) :
    Calls Try.prog 3 #[] w fun e w' => e = .returned (.bool true) ∧ Below w.heap.size w w' := by
  go_enter Try.func3, Try.ntmps3
  go_wp2_with fail
  refine (awake_w _).mono ?_
  rintro e w1 ⟨rfl, b1⟩
  go_wp2_with fail
  refine (of_w (-7) _ (by omega) (by omega)).mono ?_
  rintro e w2 ⟨v2, rfl, h2, b2⟩
  go_wp2_with fail
  refine (of_w 2 _ (by omega) (by omega)).mono ?_
  rintro e w3 ⟨v3, rfl, h3, b3⟩
  go_wp2_with fail
  refine (div_w v2 v3 (-7) 2 2 _ (by omega) (by omega) (h2.isN.below b3) h3.isN).mono ?_
  rintro e w4 ⟨q4, r4, rfl, hq4, hr4, b4⟩
  rw [show (-7 : Int).tdiv 2 = -3 from rfl] at hq4
  rw [if_neg (by omega), show (-7 : Int).tmod 2 = -1 from rfl] at hr4
  rw [show decide ((2 : Int) ≠ 0) = true from rfl]
  have B4 := below_and (below_and (below_and b1 (Nat.le_refl _) b2) (Nat.le_refl _) b3) (Nat.le_refl _) b4
  have hq4' := hq4
  have hr4' := hr4
  obtain ⟨oq, cq, rfl, _, _, _⟩ := hq4
  obtain ⟨ord, cr, rfl, _, _, _⟩ := hr4
  obtain ⟨nq, hnq⟩ : ∃ nq, (glim 4294967296 (-3 : Int).natAbs).length = nq := ⟨_, rfl⟩
  obtain ⟨nr, hnr⟩ : ∃ nr, (glim 4294967296 (-1 : Int).natAbs).length = nr := ⟨_, rfl⟩
  rw [hnq, show decide ((-3 : Int) < 0) = true from rfl] at hq4' ⊢
  rw [hnr, show decide ((-1 : Int) < 0) = true from rfl] at hr4' ⊢
  clear hnq hnr h2 h3 b1 b2 b3 b4
  obtain ⟨kQ5, kR5, hB5, hz5⟩ := boxes2 w4 (.bool true) (.slice oq nq cq) (.bool true) (.slice ord nr cr) 25 25
  go_wp2_with fail
  generalize ((w4.alloc (.cells #[.bool true, .slice oq nq cq] 25)).alloc (.cells #[.bool true, .slice ord nr cr] 25)) = W5 at *
  have B5 := below_and B4 (Nat.le_refl _) hB5
  refine (of_w 1 _ (by omega) (by omega)).mono ?_
  rintro e w6 ⟨v6, rfl, h6, b6⟩
  have B6 := below_and hB5 (Nat.le_refl _) b6
  go_wp2_with fail
  refine (div_w v6 _ 1 0 2 _ (by omega) (by omega) h6.isN (isC_zero 2 _).isN).mono ?_
  rintro e w7 ⟨q7, r7, rfl, hq7, hr7, b7⟩
  rw [show decide ((0 : Int) ≠ 0) = false from rfl]
  obtain ⟨o7, c7, rfl, _, _, _⟩ := hq7
  obtain ⟨p7, d7, rfl, _, _, _⟩ := hr7
  have B7 := below_and B6 (Nat.le_refl _) b7
  go_wp2_with fail
  have hb8 : Below w7.heap.size w7 ((w7.alloc (.cells #[.bool false, .slice o7 (glim 4294967296 0).length c7] 25)).alloc (.cells #[.bool false, .slice p7 (glim 4294967296 0).length d7] 25)) := ((Below.refl _ _).alloc (Nat.le_refl _) _).alloc (by simp) _
  generalize ((w7.alloc (.cells #[.bool false, .slice o7 (glim 4294967296 0).length c7] 25)).alloc (.cells #[.bool false, .slice p7 (glim 4294967296 0).length d7] 25)) = W8 at *
  have B8 := below_and B7 (Nat.le_refl _) hb8
  refine (parse_w ⟨#[45, 48]⟩ _ (by decide)).mono ?_
  rintro e w9 ⟨v9, rfl, h9, b9⟩
  rw [show pE (⟨#[45, 48]⟩ : ByteArray).data.toList = 10 from pE_m0]
  obtain ⟨o9, c9, rfl, _, _, _⟩ := h9
  have B9 := below_and B8 (Nat.le_refl _) b9
  generalize (glim 4294967296 (pZ (⟨#[45, 48]⟩ : ByteArray).data.toList).natAbs).length = n9
  generalize decide (pZ (⟨#[45, 48]⟩ : ByteArray).data.toList < 0) = b9n
  have hb10 : Below w9.heap.size w9 (w9.alloc (.cells #[.bool b9n, .slice o9 n9 c9] 25)) := (Below.refl _ _).alloc (Nat.le_refl _) _
  go_wp2_with fail
  generalize (w9.alloc (.cells #[.bool b9n, .slice o9 n9 c9] 25)) = W10 at *
  have B10 := below_and B9 (Nat.le_refl _) hb10
  refine (parse_w ⟨#[48, 49]⟩ _ (by decide)).mono ?_
  rintro e w11 ⟨v11, rfl, h11, b11⟩
  rw [show pE (⟨#[48, 49]⟩ : ByteArray).data.toList = 10 from pE_01]
  obtain ⟨o11, c11, rfl, _, _, _⟩ := h11
  have B11 := below_and B10 (Nat.le_refl _) b11
  generalize (glim 4294967296 (pZ (⟨#[48, 49]⟩ : ByteArray).data.toList).natAbs).length = n11
  generalize decide (pZ (⟨#[48, 49]⟩ : ByteArray).data.toList < 0) = b11n
  have hb12 : Below w11.heap.size w11 (w11.alloc (.cells #[.bool b11n, .slice o11 n11 c11] 25)) := (Below.refl _ _).alloc (Nat.le_refl _) _
  go_wp2_with fail
  generalize (w11.alloc (.cells #[.bool b11n, .slice o11 n11 c11] 25)) = W12 at *
  have B12 := below_and B11 (Nat.le_refl _) hb12
  refine (parse_w ⟨#[45, 49, 50]⟩ _ (by decide)).mono ?_
  rintro e w13 ⟨v13, rfl, h13, b13⟩
  rw [show pE (⟨#[45, 49, 50]⟩ : ByteArray).data.toList = 0 from pE_m12]
  rw [show pZ (⟨#[45, 49, 50]⟩ : ByteArray).data.toList = -12 from pZ_m12] at h13
  have h13' := h13
  obtain ⟨o13, c13, rfl, _, _, _⟩ := h13
  have B13 := below_and B12 (Nat.le_refl _) b13
  obtain ⟨n13, hn13⟩ : ∃ n13, (glim 4294967296 (-12 : Int).natAbs).length = n13 := ⟨_, rfl⟩
  rw [hn13, show decide ((-12 : Int) < 0) = true from rfl] at h13' ⊢
  clear hn13
  have hb14 : Below w13.heap.size w13 (w13.alloc (.cells #[.bool true, .slice o13 n13 c13] 25)) := (Below.refl _ _).alloc (Nat.le_refl _) _
  have kN := Box.new w13 (.bool true) (.slice o13 n13 c13) 25
  have hz14 : (w13.alloc (.cells #[.bool true, .slice o13 n13 c13] 25)).heap.size = w13.heap.size + 1 := by simp
  go_wp2
  generalize (w13.alloc (.cells #[.bool true, .slice o13 n13 c13] 25)) = wF at *
  have B14 := below_and B13 (Nat.le_refl _) hb14
  have BF := below_and B4 (Nat.le_refl _) B14
  have s5 := B14.size
  have B5F : Below W5.heap.size W5 wF := below_and (below_and (below_and (below_and (below_and (below_and (below_and (below_and (below_and b6 (Nat.le_refl _) b7) (Nat.le_refl _) hb8) (Nat.le_refl _) b9) (Nat.le_refl _) hb10) (Nat.le_refl _) b11) (Nat.le_refl _) hb12) (Nat.le_refl _) b13) (Nat.le_refl _) hb14) (Nat.le_refl _) (Below.refl _ _)
  have kQ := kQ5.below B5F (by omega)
  have kR := kR5.below B5F (by omega)
  have s6 := B5F.size
  have hQD : IsN _ (-3) 128 wF.drew := ((hq4'.below B14).mono (by omega)).isN.below ((Below.refl _ _).drew)
  have hRD : IsN _ (-1) 128 wF := ((hr4'.below B14).mono (by omega)).isN
  have hND : IsN _ (-12) 128 wF := ((h13'.below hb14).mono (by omega)).isN
  clear B5 B6 B7 B8 B9 B10 B11 B12 B13 b6 b7 b9 b11 b13 hb8 hb10 hb12 hb14 kQ5 kR5 hB5 h6 hq4' hr4' h13' B5F B14
  obtain ⟨x1, x2, x3, x4⟩ := id kQ
  obtain ⟨x5, x6, x7, x8⟩ := id kR
  obtain ⟨x9, x10, x11, x12⟩ := id kN
  generalize w4.heap.size = gq at *
  generalize w13.heap.size = gn at *
  refine wp_region_held_drew (S := fun w' => w'.cell? ⟨gq, 0, none⟩ = some (.bool true) ∧ w'.cell? ⟨gq, 1, none⟩ = some (.slice oq nq cq) ∧ w'.cell? ⟨gq + 1, 0, none⟩ = some (.bool true) ∧ w'.cell? ⟨gq + 1, 1, none⟩ = some (.slice ord nr cr) ∧ w'.cell? ⟨gn, 0, none⟩ = some (.bool true) ∧ w'.cell? ⟨gn, 1, none⟩ = some (.slice o13 n13 c13)) (by kernel_rfl) (by go_keep) (fun hHeld => ?_)
  refine wpAnyH_take (i := 0) (oi := _) (v := ?_) rfl (by kernel_rfl) (by kernel_rfl) (by kernel_rfl) (fun _ _ _ h => h) (Or.inl ⟨by rfl, ?_⟩) (by assumption) ?_
  rotate_left 1
  · (intro w hSw; (try dsimp only at hSw); go_simp; try with_reducible rfl)
  try simp only [List.getElem_toArray, List.getElem_cons_succ, List.getElem_cons_zero, Act.put, List.setIfInBounds_toArray, List.set_cons_zero, List.set_cons_succ]
  refine wpAnyH_take (i := 1) (oi := _) (v := ?_) rfl (by kernel_rfl) (by kernel_rfl) (by kernel_rfl) (fun _ _ _ h => h) (Or.inl ⟨by rfl, ?_⟩) (by assumption) ?_
  rotate_left 1
  · (intro w hSw; (try dsimp only at hSw); go_simp; try with_reducible rfl)
  try simp only [List.getElem_toArray, List.getElem_cons_succ, List.getElem_cons_zero, Act.put, List.setIfInBounds_toArray, List.set_cons_zero, List.set_cons_succ]
  refine wpAnyH_take (i := 2) (oi := _) (v := ?_) rfl (by kernel_rfl) (by kernel_rfl) (by kernel_rfl) (fun _ _ _ h => h) (Or.inl ⟨by rfl, ?_⟩) (by assumption) ?_
  rotate_left 1
  · (intro w hSw; (try dsimp only at hSw); go_simp; try with_reducible rfl)
  try simp only [List.getElem_toArray, List.getElem_cons_succ, List.getElem_cons_zero, Act.put, List.setIfInBounds_toArray, List.set_cons_zero, List.set_cons_succ]
  refine wpAnyH_ready (rs := [3]) (by kernel_rfl) (by simp) ?_
  refine AllReadyH.cons rfl (fun K hK => ?_) AllReadyH.nil
  go_simp
  refine (text_w _ (-3) 128 _ (by omega) hQD).mono ?_
  rintro e wa ⟨rfl, ba'⟩
  rw [txt_m3]
  have ba : Below wF.heap.size wF wa := below_of_drew ba'
  have hza := ba.size
  obtain ⟨a1, a2, a3, a4⟩ := kQ.below ba (by omega)
  obtain ⟨a5, a6, a7, a8⟩ := kR.below ba (by omega)
  obtain ⟨a9, a10, a11, a12⟩ := kN.below ba (by omega)
  try go_simp
  refine hK.out _ _ ?_ (fun hHeld => ?_)
  · first | assumption | (refine ⟨?_, ?_, ?_, ?_, ?_, ?_⟩ <;> assumption) | go_keep
  clear hK K
  try simp only [List.getElem_toArray, List.getElem_cons_succ, List.getElem_cons_zero, Act.put, List.setIfInBounds_toArray, List.set_cons_zero, List.set_cons_succ]
  refine wpAnyH_take (i := 4) (oi := _) (v := ?_) rfl (by kernel_rfl) (by kernel_rfl) (by kernel_rfl) (fun _ _ _ h => h) (Or.inl ⟨by rfl, ?_⟩) (by assumption) ?_
  rotate_left 1
  · (intro w hSw; (try dsimp only at hSw); go_simp; try with_reducible rfl)
  try simp only [List.getElem_toArray, List.getElem_cons_succ, List.getElem_cons_zero, Act.put, List.setIfInBounds_toArray, List.set_cons_zero, List.set_cons_succ]
  refine wpAnyH_take (i := 5) (oi := _) (v := ?_) rfl (by kernel_rfl) (by kernel_rfl) (by kernel_rfl) (fun _ _ _ h => h) (Or.inl ⟨by rfl, ?_⟩) (by assumption) ?_
  rotate_left 1
  · (intro w hSw; (try dsimp only at hSw); go_simp; try with_reducible rfl)
  try simp only [List.getElem_toArray, List.getElem_cons_succ, List.getElem_cons_zero, Act.put, List.setIfInBounds_toArray, List.set_cons_zero, List.set_cons_succ]
  refine wpAnyH_take (i := 6) (oi := _) (v := ?_) rfl (by kernel_rfl) (by kernel_rfl) (by kernel_rfl) (fun _ _ _ h => h) (Or.inl ⟨by rfl, ?_⟩) (by assumption) ?_
  rotate_left 1
  · (intro w hSw; (try dsimp only at hSw); go_simp; try with_reducible rfl)
  try simp only [List.getElem_toArray, List.getElem_cons_succ, List.getElem_cons_zero, Act.put, List.setIfInBounds_toArray, List.set_cons_zero, List.set_cons_succ]
  refine wpAnyH_take (i := 7) (oi := _) (v := ?_) rfl (by kernel_rfl) (by kernel_rfl) (by kernel_rfl) (fun _ _ _ h => h) (Or.inl ⟨by rfl, ?_⟩) (by assumption) ?_
  rotate_left 1
  · (intro w hSw; (try dsimp only at hSw); go_simp; try with_reducible rfl)
  try simp only [List.getElem_toArray, List.getElem_cons_succ, List.getElem_cons_zero, Act.put, List.setIfInBounds_toArray, List.set_cons_zero, List.set_cons_succ]
  refine wpAnyH_ready (rs := [8]) (by kernel_rfl) (by simp) ?_
  refine AllReadyH.cons rfl (fun K hK => ?_) AllReadyH.nil
  go_simp
  refine (text_w _ (-1) 128 _ (by omega) (hRD.below ba)).mono ?_
  rintro e wb ⟨rfl, bb'⟩
  rw [txt_m1]
  have bb : Below wF.heap.size wF wb := below_and ba (Nat.le_refl _) bb'
  obtain ⟨d1, d2, d3, d4⟩ := kQ.below bb (by omega)
  obtain ⟨d5, d6, d7, d8⟩ := kR.below bb (by omega)
  obtain ⟨d9, d10, d11, d12⟩ := kN.below bb (by omega)
  try go_simp
  refine hK.out _ _ ?_ (fun hHeld => ?_)
  · first | assumption | (refine ⟨?_, ?_, ?_, ?_, ?_, ?_⟩ <;> assumption) | go_keep
  clear hK K
  try simp only [List.getElem_toArray, List.getElem_cons_succ, List.getElem_cons_zero, Act.put, List.setIfInBounds_toArray, List.set_cons_zero, List.set_cons_succ]
  refine wpAnyH_take (i := 9) (oi := _) (v := ?_) rfl (by kernel_rfl) (by kernel_rfl) (by kernel_rfl) (fun _ _ _ h => h) (Or.inl ⟨by rfl, ?_⟩) (by assumption) ?_
  rotate_left 1
  · (intro w hSw; (try dsimp only at hSw); go_simp; try with_reducible rfl)
  try simp only [List.getElem_toArray, List.getElem_cons_succ, List.getElem_cons_zero, Act.put, List.setIfInBounds_toArray, List.set_cons_zero, List.set_cons_succ]
  refine wpAnyH_take (i := 10) (oi := _) (v := ?_) rfl (by kernel_rfl) (by kernel_rfl) (by kernel_rfl) (fun _ _ _ h => h) (Or.inl ⟨by rfl, ?_⟩) (by assumption) ?_
  rotate_left 1
  · (intro w hSw; (try dsimp only at hSw); go_simp; try with_reducible rfl)
  try simp only [List.getElem_toArray, List.getElem_cons_succ, List.getElem_cons_zero, Act.put, List.setIfInBounds_toArray, List.set_cons_zero, List.set_cons_succ]
  refine wpAnyH_take (i := 11) (oi := _) (v := ?_) rfl (by kernel_rfl) (by kernel_rfl) (by kernel_rfl) (fun _ _ _ h => h) (Or.inl ⟨by rfl, ?_⟩) (by assumption) ?_
  rotate_left 1
  · (intro w hSw; (try dsimp only at hSw); go_simp; try with_reducible rfl)
  try simp only [List.getElem_toArray, List.getElem_cons_succ, List.getElem_cons_zero, Act.put, List.setIfInBounds_toArray, List.set_cons_zero, List.set_cons_succ]
  refine wpAnyH_take (i := 12) (oi := _) (v := ?_) rfl (by kernel_rfl) (by kernel_rfl) (by kernel_rfl) (fun _ _ _ h => h) (Or.inl ⟨by rfl, ?_⟩) (by assumption) ?_
  rotate_left 1
  · (intro w hSw; (try dsimp only at hSw); go_simp; try with_reducible rfl)
  try simp only [List.getElem_toArray, List.getElem_cons_succ, List.getElem_cons_zero, Act.put, List.setIfInBounds_toArray, List.set_cons_zero, List.set_cons_succ]
  refine wpAnyH_take (i := 13) (oi := _) (v := ?_) rfl (by kernel_rfl) (by kernel_rfl) (by kernel_rfl) (fun _ _ _ h => h) (Or.inl ⟨by rfl, ?_⟩) (by assumption) ?_
  rotate_left 1
  · (intro w hSw; (try dsimp only at hSw); go_simp; try with_reducible rfl)
  try simp only [List.getElem_toArray, List.getElem_cons_succ, List.getElem_cons_zero, Act.put, List.setIfInBounds_toArray, List.set_cons_zero, List.set_cons_succ]
  refine wpAnyH_take (i := 14) (oi := _) (v := ?_) rfl (by kernel_rfl) (by kernel_rfl) (by kernel_rfl) (fun _ _ _ h => h) (Or.inl ⟨by rfl, ?_⟩) (by assumption) ?_
  rotate_left 1
  · (intro w hSw; (try dsimp only at hSw); go_simp; try with_reducible rfl)
  try simp only [List.getElem_toArray, List.getElem_cons_succ, List.getElem_cons_zero, Act.put, List.setIfInBounds_toArray, List.set_cons_zero, List.set_cons_succ]
  refine wpAnyH_take (i := 15) (oi := _) (v := ?_) rfl (by kernel_rfl) (by kernel_rfl) (by kernel_rfl) (fun _ _ _ h => h) (Or.inl ⟨by rfl, ?_⟩) (by assumption) ?_
  rotate_left 1
  · (intro w hSw; (try dsimp only at hSw); go_simp; try with_reducible rfl)
  try simp only [List.getElem_toArray, List.getElem_cons_succ, List.getElem_cons_zero, Act.put, List.setIfInBounds_toArray, List.set_cons_zero, List.set_cons_succ]
  refine wpAnyH_take (i := 16) (oi := _) (v := ?_) rfl (by kernel_rfl) (by kernel_rfl) (by kernel_rfl) (fun _ _ _ h => h) (Or.inl ⟨by rfl, ?_⟩) (by assumption) ?_
  rotate_left 1
  · (intro w hSw; (try dsimp only at hSw); go_simp; try with_reducible rfl)
  try simp only [List.getElem_toArray, List.getElem_cons_succ, List.getElem_cons_zero, Act.put, List.setIfInBounds_toArray, List.set_cons_zero, List.set_cons_succ]
  refine wpAnyH_take (i := 17) (oi := _) (v := ?_) rfl (by kernel_rfl) (by kernel_rfl) (by kernel_rfl) (fun _ _ _ h => h) (Or.inl ⟨by rfl, ?_⟩) (by assumption) ?_
  rotate_left 1
  · (intro w hSw; (try dsimp only at hSw); go_simp; try with_reducible rfl)
  try simp only [List.getElem_toArray, List.getElem_cons_succ, List.getElem_cons_zero, Act.put, List.setIfInBounds_toArray, List.set_cons_zero, List.set_cons_succ]
  refine wpAnyH_take (i := 18) (oi := _) (v := ?_) rfl (by kernel_rfl) (by kernel_rfl) (by kernel_rfl) (fun _ _ _ h => h) (Or.inl ⟨by rfl, ?_⟩) (by assumption) ?_
  rotate_left 1
  · (intro w hSw; (try dsimp only at hSw); go_simp; try with_reducible rfl)
  try simp only [List.getElem_toArray, List.getElem_cons_succ, List.getElem_cons_zero, Act.put, List.setIfInBounds_toArray, List.set_cons_zero, List.set_cons_succ]
  refine wpAnyH_take (i := 19) (oi := _) (v := ?_) rfl (by kernel_rfl) (by kernel_rfl) (by kernel_rfl) (fun _ _ _ h => h) (Or.inl ⟨by rfl, ?_⟩) (by assumption) ?_
  rotate_left 1
  · (intro w hSw; (try dsimp only at hSw); go_simp; try with_reducible rfl)
  try simp only [List.getElem_toArray, List.getElem_cons_succ, List.getElem_cons_zero, Act.put, List.setIfInBounds_toArray, List.set_cons_zero, List.set_cons_succ]
  refine wpAnyH_take (i := 20) (oi := _) (v := ?_) rfl (by kernel_rfl) (by kernel_rfl) (by kernel_rfl) (fun _ _ _ h => h) (Or.inl ⟨by rfl, ?_⟩) (by assumption) ?_
  rotate_left 1
  · (intro w hSw; (try dsimp only at hSw); go_simp; try with_reducible rfl)
  try simp only [List.getElem_toArray, List.getElem_cons_succ, List.getElem_cons_zero, Act.put, List.setIfInBounds_toArray, List.set_cons_zero, List.set_cons_succ]
  refine wpAnyH_take (i := 21) (oi := _) (v := ?_) rfl (by kernel_rfl) (by kernel_rfl) (by kernel_rfl) (fun _ _ _ h => h) (Or.inl ⟨by rfl, ?_⟩) (by assumption) ?_
  rotate_left 1
  · (intro w hSw; (try dsimp only at hSw); go_simp; try with_reducible rfl)
  try simp only [List.getElem_toArray, List.getElem_cons_succ, List.getElem_cons_zero, Act.put, List.setIfInBounds_toArray, List.set_cons_zero, List.set_cons_succ]
  refine wpAnyH_take (i := 22) (oi := _) (v := ?_) rfl (by kernel_rfl) (by kernel_rfl) (by kernel_rfl) (fun _ _ _ h => h) (Or.inl ⟨by rfl, ?_⟩) (by assumption) ?_
  rotate_left 1
  · (intro w hSw; (try dsimp only at hSw); go_simp; try with_reducible rfl)
  try simp only [List.getElem_toArray, List.getElem_cons_succ, List.getElem_cons_zero, Act.put, List.setIfInBounds_toArray, List.set_cons_zero, List.set_cons_succ]
  refine wpAnyH_take (i := 23) (oi := _) (v := ?_) rfl (by kernel_rfl) (by kernel_rfl) (by kernel_rfl) (fun _ _ _ h => h) (Or.inl ⟨by rfl, ?_⟩) (by assumption) ?_
  rotate_left 1
  · (intro w hSw; (try dsimp only at hSw); go_simp; try with_reducible rfl)
  try simp only [List.getElem_toArray, List.getElem_cons_succ, List.getElem_cons_zero, Act.put, List.setIfInBounds_toArray, List.set_cons_zero, List.set_cons_succ]
  refine wpAnyH_take (i := 24) (oi := _) (v := ?_) rfl (by kernel_rfl) (by kernel_rfl) (by kernel_rfl) (fun _ _ _ h => h) (Or.inl ⟨by rfl, ?_⟩) (by assumption) ?_
  rotate_left 1
  · (intro w hSw; (try dsimp only at hSw); go_simp; try with_reducible rfl)
  try simp only [List.getElem_toArray, List.getElem_cons_succ, List.getElem_cons_zero, Act.put, List.setIfInBounds_toArray, List.set_cons_zero, List.set_cons_succ]
  refine wpAnyH_take (i := 25) (oi := _) (v := ?_) rfl (by kernel_rfl) (by kernel_rfl) (by kernel_rfl) (fun _ _ _ h => h) (Or.inl ⟨by rfl, ?_⟩) (by assumption) ?_
  rotate_left 1
  · (intro w hSw; (try dsimp only at hSw); go_simp; try with_reducible rfl)
  try simp only [List.getElem_toArray, List.getElem_cons_succ, List.getElem_cons_zero, Act.put, List.setIfInBounds_toArray, List.set_cons_zero, List.set_cons_succ]
  refine wpAnyH_take (i := 26) (oi := _) (v := ?_) rfl (by kernel_rfl) (by kernel_rfl) (by kernel_rfl) (fun _ _ _ h => h) (Or.inl ⟨by rfl, ?_⟩) (by assumption) ?_
  rotate_left 1
  · (intro w hSw; (try dsimp only at hSw); go_simp; try with_reducible rfl)
  try simp only [List.getElem_toArray, List.getElem_cons_succ, List.getElem_cons_zero, Act.put, List.setIfInBounds_toArray, List.set_cons_zero, List.set_cons_succ]
  refine wpAnyH_take (i := 27) (oi := _) (v := ?_) rfl (by kernel_rfl) (by kernel_rfl) (by kernel_rfl) (fun _ _ _ h => h) (Or.inl ⟨by rfl, ?_⟩) (by assumption) ?_
  rotate_left 1
  · (intro w hSw; (try dsimp only at hSw); go_simp; try with_reducible rfl)
  try simp only [List.getElem_toArray, List.getElem_cons_succ, List.getElem_cons_zero, Act.put, List.setIfInBounds_toArray, List.set_cons_zero, List.set_cons_succ]
  refine wpAnyH_take (i := 28) (oi := _) (v := ?_) rfl (by kernel_rfl) (by kernel_rfl) (by kernel_rfl) (fun _ _ _ h => h) (Or.inl ⟨by rfl, ?_⟩) (by assumption) ?_
  rotate_left 1
  · (intro w hSw; (try dsimp only at hSw); go_simp; try with_reducible rfl)
  try simp only [List.getElem_toArray, List.getElem_cons_succ, List.getElem_cons_zero, Act.put, List.setIfInBounds_toArray, List.set_cons_zero, List.set_cons_succ]
  refine wpAnyH_ready (rs := [29]) (by kernel_rfl) (by simp) ?_
  refine AllReadyH.cons rfl (fun K hK => ?_) AllReadyH.nil
  go_simp
  refine (of_w (-12) _ (by omega) (by omega)).mono ?_
  rintro e wc ⟨vc, rfl, hvc, bc'⟩
  have bc : Below wF.heap.size wF wc := below_and bb (Nat.le_refl _) bc'
  obtain ⟨f1, f2, f3, f4⟩ := kQ.below bc (by omega)
  obtain ⟨f5, f6, f7, f8⟩ := kR.below bc (by omega)
  obtain ⟨f9, f10, f11, f12⟩ := kN.below bc (by omega)
  try go_simp
  refine hK.out _ _ ?_ (fun hHeld => ?_)
  · first | assumption | (refine ⟨?_, ?_, ?_, ?_, ?_, ?_⟩ <;> assumption) | go_keep
  clear hK K
  try simp only [List.getElem_toArray, List.getElem_cons_succ, List.getElem_cons_zero, Act.put, List.setIfInBounds_toArray, List.set_cons_zero, List.set_cons_succ]
  refine wpAnyH_ready (rs := [30]) (by kernel_rfl) (by simp) ?_
  refine AllReadyH.cons rfl (fun K hK => ?_) AllReadyH.nil
  go_simp
  refine (Compare_w _ _ (-12) (-12) 128 _ (by omega) (hND.below bc) (hvc.isN.mono (by omega))).mono ?_
  rintro e we ⟨rfl, be'⟩
  rw [cmpZ_eq]
  have be : Below wF.heap.size wF we := below_and bc (Nat.le_refl _) be'
  obtain ⟨g1, g2, g3, g4⟩ := kQ.below be (by omega)
  obtain ⟨g5, g6, g7, g8⟩ := kR.below be (by omega)
  obtain ⟨g9, g10, g11, g12⟩ := kN.below be (by omega)
  try go_simp
  refine hK.out _ _ ?_ (fun hHeld => ?_)
  · first | assumption | (refine ⟨?_, ?_, ?_, ?_, ?_, ?_⟩ <;> assumption) | go_keep
  clear hK K
  try simp only [List.getElem_toArray, List.getElem_cons_succ, List.getElem_cons_zero, Act.put, List.setIfInBounds_toArray, List.set_cons_zero, List.set_cons_succ]
  refine wpAnyH_take (i := 31) (oi := _) (v := ?_) rfl (by kernel_rfl) (by kernel_rfl) (by kernel_rfl) (fun _ _ _ h => h) (Or.inl ⟨by rfl, ?_⟩) (by assumption) ?_
  rotate_left 1
  · (intro w hSw; (try dsimp only at hSw); go_simp; try with_reducible rfl)
  try simp only [List.getElem_toArray, List.getElem_cons_succ, List.getElem_cons_zero, Act.put, List.setIfInBounds_toArray, List.set_cons_zero, List.set_cons_succ]
  refine wpAnyH_take (i := 32) (oi := _) (v := ?_) rfl (by kernel_rfl) (by kernel_rfl) (by kernel_rfl) (fun _ _ _ h => h) (Or.inl ⟨by rfl, ?_⟩) (by assumption) ?_
  rotate_left 1
  · (intro w hSw; (try dsimp only at hSw); go_simp; try with_reducible rfl)
  try simp only [List.getElem_toArray, List.getElem_cons_succ, List.getElem_cons_zero, Act.put, List.setIfInBounds_toArray, List.set_cons_zero, List.set_cons_succ]
  refine wpAnyH_take (i := 33) (oi := _) (v := ?_) rfl (by kernel_rfl) (by kernel_rfl) (by kernel_rfl) (fun _ _ _ h => h) (Or.inl ⟨by rfl, ?_⟩) (by assumption) ?_
  rotate_left 1
  · (intro w hSw; (try dsimp only at hSw); go_simp; try with_reducible rfl)
  try simp only [List.getElem_toArray, List.getElem_cons_succ, List.getElem_cons_zero, Act.put, List.setIfInBounds_toArray, List.set_cons_zero, List.set_cons_succ]
  refine wpAnyH_done (by kernel_rfl) ?_ _
  go_wp2
  go_ret
  exact ⟨rfl, below_and BF (Nat.le_refl _) be⟩
end Go.Proofs.Ytccogdlmlegmbaa.bigKnown
