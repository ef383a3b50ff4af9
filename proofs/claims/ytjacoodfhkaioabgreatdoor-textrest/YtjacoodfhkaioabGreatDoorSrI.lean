/- Texts of mine, one behind the other: TermRMay4, TermRMay5, TermRMay6, TermRMay7, TermRoomOk, TermMakers, TermPartsM, TermItems, TermRooms. -/
import Derived.Test.YtjacoodfhkaioabGreatDoorSrH
namespace Go.Proofs.YtjacoodfhkaioabGreatDoor
open Go.ChangeShapes Go.WideShapes Go.ChangeAt Go.RowKit Go.Shelf
set_option linter.unusedSimpArgs false
set_option linter.unusedVariables false
set_option maxRecDepth 2000
set_option maxHeartbeats 4000000 in
set_option maxRecDepth 8000 in
theorem pass0 (od : Option Addr) (cd : Nat) (ol : Option Addr) (cl : Nat) (ob : Option Addr) (cb : Nat) (w : World) (neg : Bool) (d : List Nat) (nm : ByteArray) (hn : nm.toList = []) (hd' : d.length ≤ 1000000) (hm' : Lm 4294967296 d) (hcd' : d.length ≤ cd) (hL : Ls (Low w) od (lim d) w) :
    MayC 0 neg od d.length cd nm 0 ol 0 cl ob 0 cb w (decide ((d.length : Int) ≤ 64) && normB neg d) := by
  obtain ⟨R, hR⟩ : ∃ R, (decide ((d.length : Int) ≤ 64) && normB neg d) = R := ⟨_, rfl⟩
  unfold MayC
  rw [hR]
  have hHR := hid hR
  clear hR
  obtain ⟨kX, hBX, hz0⟩ := bx1 w (.int .i64 0) (.bool neg) (.slice od d.length cd) (.string nm) (.int .i64 0) (.slice ol 0 cl) (.slice ob 0 cb) 26
  obtain ⟨Z, hZ'⟩ : ∃ Z, sv neg (gval 4294967296 d) = Z := ⟨_, rfl⟩
  obtain ⟨nB, hnB'⟩ : ∃ nB, normB neg d = nB := ⟨_, rfl⟩
  have hnB := hid hnB'
  have hZ := hid hZ'
  have hm := hid hm'
  have hd := hid hd'
  have hcd := hid hcd'
  go_enter Tryz.func21, Tryz.ntmps21
  simp only [List.append_eq, List.cons_append, List.nil_append]
  go_upto_region 5 with fail
  generalize (w.alloc (.cells #[.int .i64 0, .bool neg, .slice od d.length cd, .string nm, .int .i64 0, .slice ol 0 cl, .slice ob 0 cb] 26)) = W0 at *
  have hLx := hid (fun w' (hb : Below W0.heap.size W0 w') => ((hL.zs (fun k hk => hBX.block k hk)).mono (fun k hk _ => hk) : Ls (Low W0) od (lim d) W0).zs (fun k hk => hb.block k hk) |>.lies)
  have hNX := hid (fun w' (hb : Below W0.heap.size W0 w') => (show IsN (.agg #[.bool neg, .slice od d.length cd]) Z 1000000 w' from ⟨neg, od, d, cd, rfl, hLx.out w' hb, hcd', hm', hZ', hd'⟩))
  have hS : Hid (∀ w', Below W0.heap.size W0 w' → (w'.cell? ⟨w.heap.size, 1, none⟩ = some (.bool neg) ∧ w'.cell? ⟨w.heap.size, 2, none⟩ = some (.slice od d.length cd))) := hid (fun w' hb => by
    obtain ⟨t0, t1, t2, t3, t4, t5, t6⟩ := (kX.below hb).res
    exact ⟨t1, t2⟩)
  have hDr : Below W0.heap.size W0 W0.drew := (Below.refl _ W0).drew
  have hzz : w.heap.size ≤ w.heap.size := Nat.le_refl _
  have hBh := hid hBX
  clear hZ' hnB' hm' hd' hcd' hL hBX kX hz0
  refine wp_region_held_drew (S := fun w' => w'.cell? ⟨w.heap.size, 1, none⟩ = some (.bool neg) ∧ w'.cell? ⟨w.heap.size, 2, none⟩ = some (.slice od d.length cd)) (by kernel_rfl) (by first | exact hS.out _ (Below.refl _ _) | exact hS.out _ hDr) (fun hHeld => ?_)
  by_cases h64 : (d.length : Int) ≤ 64
  · have hRn : R = nB := by rw [← hHR.out, decide_eq_true h64, Bool.true_and, hnB.out]
    subst hRn
    clear hHR
    refine wpAnyH_take (i := 0) (oi := _) (v := ?_) rfl (by kernel_rfl) (by kernel_rfl) (by kernel_rfl) (fun _ _ _ h => h) (Or.inl ⟨by rfl, ?_⟩) (by assumption) ?_
    rotate_left 1
    · (intro w hSw; (try dsimp only at hSw); go_simp; try with_reducible rfl)
    try simp (maxSteps := 10000000) only [List.getElem_toArray, List.getElem_cons_succ, List.getElem_cons_zero, Act.put, List.setIfInBounds_toArray, List.set_cons_zero, List.set_cons_succ]
    refine wpAnyH_take (i := 1) (oi := _) (v := ?_) rfl (by kernel_rfl) (by kernel_rfl) (by kernel_rfl) (fun _ _ _ h => h) (Or.inl ⟨by rfl, ?_⟩) (by assumption) ?_
    rotate_left 1
    · (intro w hSw; (try dsimp only at hSw); go_simp; try with_reducible rfl)
    try simp (maxSteps := 10000000) only [List.getElem_toArray, List.getElem_cons_succ, List.getElem_cons_zero, Act.put, List.setIfInBounds_toArray, List.set_cons_zero, List.set_cons_succ]
    refine wpAnyH_take (i := 2) (oi := _) (v := ?_) rfl (by kernel_rfl) (by kernel_rfl) (by kernel_rfl) (fun _ _ _ h => h) (Or.inl ⟨by rfl, ?_⟩) (by assumption) ?_
    rotate_left 1
    · (intro w hSw; (try dsimp only at hSw); go_simp; try with_reducible rfl)
    try simp (maxSteps := 10000000) only [List.getElem_toArray, List.getElem_cons_succ, List.getElem_cons_zero, Act.put, List.setIfInBounds_toArray, List.set_cons_zero, List.set_cons_succ]
    refine wpAnyH_take (i := 3) (oi := _) (v := ?_) rfl (by kernel_rfl) (by kernel_rfl) (by kernel_rfl) (fun _ _ _ h => h) (Or.inl ⟨by rfl, ?_⟩) (by assumption) ?_
    rotate_left 1
    · (intro w hSw; (try dsimp only at hSw); go_simp; try with_reducible rfl)
    try simp (maxSteps := 10000000) only [List.getElem_toArray, List.getElem_cons_succ, List.getElem_cons_zero, Act.put, List.setIfInBounds_toArray, List.set_cons_zero, List.set_cons_succ]
    refine wpAnyH_take (i := 4) (oi := _) (v := ?_) rfl (by kernel_rfl) (by kernel_rfl) (by kernel_rfl) (fun _ _ _ h => h) (Or.inl ⟨by rfl, ?_⟩) (by assumption) ?_
    rotate_left 1
    · (intro w hSw; (try dsimp only at hSw); go_simp; try with_reducible rfl)
    try simp (maxSteps := 10000000) only [List.getElem_toArray, List.getElem_cons_succ, List.getElem_cons_zero, Act.put, List.setIfInBounds_toArray, List.set_cons_zero, List.set_cons_succ]
    refine wpAnyH_take (i := 5) (oi := _) (v := ?_) rfl (by kernel_rfl) (by kernel_rfl) (by kernel_rfl) (fun _ _ _ h => h) (Or.inl ⟨by rfl, ?_⟩) (by assumption) ?_
    rotate_left 1
    · (intro w hSw; (try dsimp only at hSw); go_simp; try with_reducible rfl)
    try simp (maxSteps := 10000000) only [List.getElem_toArray, List.getElem_cons_succ, List.getElem_cons_zero, Act.put, List.setIfInBounds_toArray, List.set_cons_zero, List.set_cons_succ]
    refine wpAnyH_take (i := 6) (oi := _) (v := ?_) rfl (by kernel_rfl) (by kernel_rfl) (by kernel_rfl) (fun _ _ _ h => h) (Or.inl ⟨by rfl, ?_⟩) (by assumption) ?_
    rotate_left 1
    · (intro w hSw; (try dsimp only at hSw); go_simp; try with_reducible rfl)
    try simp (maxSteps := 10000000) only [List.getElem_toArray, List.getElem_cons_succ, List.getElem_cons_zero, Act.put, List.setIfInBounds_toArray, List.set_cons_zero, List.set_cons_succ]
    refine wpAnyH_take (i := 7) (oi := _) (v := ?_) rfl (by kernel_rfl) (by kernel_rfl) (by kernel_rfl) (fun _ _ _ h => h) (Or.inl ⟨by rfl, ?_⟩) (by assumption) ?_
    rotate_left 1
    · (intro w hSw; (try dsimp only at hSw); go_simp; try with_reducible rfl)
    try simp (maxSteps := 10000000) only [List.getElem_toArray, List.getElem_cons_succ, List.getElem_cons_zero, Act.put, List.setIfInBounds_toArray, List.set_cons_zero, List.set_cons_succ]
    refine wpAnyH_take (i := 8) (oi := _) (v := ?_) rfl (by kernel_rfl) (by kernel_rfl) (by kernel_rfl) (fun _ _ _ h => h) (Or.inl ⟨by rfl, ?_⟩) (by assumption) ?_
    rotate_left 1
    · (intro w hSw; (try dsimp only at hSw); go_simp; try with_reducible rfl)
    try simp (maxSteps := 10000000) only [List.getElem_toArray, List.getElem_cons_succ, List.getElem_cons_zero, Act.put, List.setIfInBounds_toArray, List.set_cons_zero, List.set_cons_succ]
    refine wpAnyH_take (i := 9) (oi := _) (v := ?_) rfl (by kernel_rfl) (by kernel_rfl) (by kernel_rfl) (fun _ _ _ h => h) (Or.inl ⟨by rfl, ?_⟩) (by assumption) ?_
    rotate_left 1
    · (intro w hSw; (try dsimp only at hSw); go_simp; try with_reducible rfl)
    try simp (maxSteps := 10000000) only [List.getElem_toArray, List.getElem_cons_succ, List.getElem_cons_zero, Act.put, List.setIfInBounds_toArray, List.set_cons_zero, List.set_cons_succ]
    refine wpAnyH_take (i := 10) (oi := _) (v := ?_) rfl (by kernel_rfl) (by kernel_rfl) (by kernel_rfl) (fun _ _ _ h => h) (Or.inl ⟨by rfl, ?_⟩) (by assumption) ?_
    rotate_left 1
    · (intro w hSw; (try dsimp only at hSw); go_simp; try with_reducible rfl)
    try simp (maxSteps := 10000000) only [List.getElem_toArray, List.getElem_cons_succ, List.getElem_cons_zero, Act.put, List.setIfInBounds_toArray, List.set_cons_zero, List.set_cons_succ]
    refine wpAnyH_take (i := 11) (oi := _) (v := ?_) rfl (by kernel_rfl) (by kernel_rfl) (by kernel_rfl) (fun _ _ _ h => h) (Or.inl ⟨by rfl, ?_⟩) (by assumption) ?_
    rotate_left 1
    · (intro w hSw; (try dsimp only at hSw); go_simp; try with_reducible rfl)
    try simp (maxSteps := 10000000) only [List.getElem_toArray, List.getElem_cons_succ, List.getElem_cons_zero, Act.put, List.setIfInBounds_toArray, List.set_cons_zero, List.set_cons_succ]
    refine wpAnyH_take (i := 12) (oi := _) (v := ?_) rfl (by kernel_rfl) (by kernel_rfl) (by kernel_rfl) (fun _ _ _ h => h) (Or.inl ⟨by rfl, ?_⟩) (by assumption) ?_
    rotate_left 1
    · (intro w hSw; (try dsimp only at hSw); go_simp; try with_reducible rfl)
    try simp (maxSteps := 10000000) only [List.getElem_toArray, List.getElem_cons_succ, List.getElem_cons_zero, Act.put, List.setIfInBounds_toArray, List.set_cons_zero, List.set_cons_succ]
    refine wpAnyH_take (i := 13) (oi := _) (v := ?_) rfl (by kernel_rfl) (by kernel_rfl) (by kernel_rfl) (fun _ _ _ h => h) (Or.inl ⟨by rfl, ?_⟩) (by assumption) ?_
    rotate_left 1
    · (intro w hSw; (try dsimp only at hSw); go_simp; try with_reducible rfl)
    try simp (maxSteps := 10000000) only [List.getElem_toArray, List.getElem_cons_succ, List.getElem_cons_zero, Act.put, List.setIfInBounds_toArray, List.set_cons_zero, List.set_cons_succ]
    refine wpAnyH_take (i := 14) (oi := _) (v := ?_) rfl (by kernel_rfl) (by kernel_rfl) (by kernel_rfl) (fun _ _ _ h => h) (Or.inl ⟨by rfl, ?_⟩) (by assumption) ?_
    rotate_left 1
    · (intro w hSw; (try dsimp only at hSw); go_simp; try with_reducible rfl)
    try simp (maxSteps := 10000000) only [List.getElem_toArray, List.getElem_cons_succ, List.getElem_cons_zero, Act.put, List.setIfInBounds_toArray, List.set_cons_zero, List.set_cons_succ]
    refine wpAnyH_ready (rs := [15]) (by kernel_rfl) (by simp) ?_
    refine AllReadyH.cons rfl (fun K hK => ?_) AllReadyH.nil
    go_simp
    refine (rnorm_c _ Z 1000000 _ (by omega) (hNX.out _ hDr)).mono ?_
    rintro e wa ⟨ba, oa2, na2, ca2, rfl, hCa, bra⟩
    have c1 : Below W0.heap.size W0 wa := below_and hDr (Nat.le_refl _) bra
    try go_simp
    refine hK.out _ _ ?_ (fun hHeld => ?_)
    · exact hS.out _ (by assumption)
    clear hK K
    try simp (maxSteps := 10000000) only [List.getElem_toArray, List.getElem_cons_succ, List.getElem_cons_zero, Act.put, List.setIfInBounds_toArray, List.set_cons_zero, List.set_cons_succ]
    refine wpAnyH_ready (rs := [16]) (by kernel_rfl) (by simp) ?_
    refine AllReadyH.cons rfl (fun K hK => ?_) AllReadyH.nil
    go_simp
    refine (sameNorm_w neg d od oa2 cd ca2 ba na2 1000000 _ (by omega) hm.out ((hLx.out _ c1)) hd.out hcd.out (by rw [hZ.out]; exact hCa)).mono ?_
    rintro e wb ⟨rfl, brb⟩
    rw [hnB.out]
    have c2 : Below W0.heap.size W0 wb := below_and c1 (Nat.le_refl _) brb
    try go_simp
    refine hK.out _ _ ?_ (fun hHeld => ?_)
    · exact hS.out _ (by assumption)
    clear hK K
    try simp (maxSteps := 10000000) only [List.getElem_toArray, List.getElem_cons_succ, List.getElem_cons_zero, Act.put, List.setIfInBounds_toArray, List.set_cons_zero, List.set_cons_succ]
    refine wpAnyH_take (i := 17) (oi := _) (v := ?_) rfl (by kernel_rfl) (by kernel_rfl) (by kernel_rfl) (fun _ _ _ h => h) (Or.inl ⟨by rfl, ?_⟩) (by assumption) ?_
    rotate_left 1
    · (intro w hSw; (try dsimp only at hSw); go_simp; try with_reducible rfl)
    try simp (maxSteps := 10000000) only [List.getElem_toArray, List.getElem_cons_succ, List.getElem_cons_zero, Act.put, List.setIfInBounds_toArray, List.set_cons_zero, List.set_cons_succ]
    refine wpAnyH_take (i := 18) (oi := _) (v := ?_) rfl (by kernel_rfl) (by kernel_rfl) (by kernel_rfl) (fun _ _ _ h => h) (Or.inl ⟨by rfl, ?_⟩) (by assumption) ?_
    rotate_left 1
    · (intro w hSw; (try dsimp only at hSw); go_simp; try with_reducible rfl)
    try simp (maxSteps := 10000000) only [List.getElem_toArray, List.getElem_cons_succ, List.getElem_cons_zero, Act.put, List.setIfInBounds_toArray, List.set_cons_zero, List.set_cons_succ]
    refine wpAnyH_done (by kernel_rfl) ?_ _
    go_wp2
    go_ret
    exact ⟨rfl, below_and hBh.out (Nat.le_refl _) c2⟩
  · have hRn : R = false := by rw [← hHR.out, decide_eq_false h64, Bool.false_and]
    subst hRn
    clear hHR
    refine wpAnyH_take (i := 0) (oi := _) (v := ?_) rfl (by kernel_rfl) (by kernel_rfl) (by kernel_rfl) (fun _ _ _ h => h) (Or.inl ⟨by rfl, ?_⟩) (by assumption) ?_
    rotate_left 1
    · (intro w hSw; (try dsimp only at hSw); go_simp; try with_reducible rfl)
    try simp (maxSteps := 10000000) only [List.getElem_toArray, List.getElem_cons_succ, List.getElem_cons_zero, Act.put, List.setIfInBounds_toArray, List.set_cons_zero, List.set_cons_succ]
    refine wpAnyH_take (i := 1) (oi := _) (v := ?_) rfl (by kernel_rfl) (by kernel_rfl) (by kernel_rfl) (fun _ _ _ h => h) (Or.inl ⟨by rfl, ?_⟩) (by assumption) ?_
    rotate_left 1
    · (intro w hSw; (try dsimp only at hSw); go_simp; try with_reducible rfl)
    try simp (maxSteps := 10000000) only [List.getElem_toArray, List.getElem_cons_succ, List.getElem_cons_zero, Act.put, List.setIfInBounds_toArray, List.set_cons_zero, List.set_cons_succ]
    refine wpAnyH_take (i := 2) (oi := _) (v := ?_) rfl (by kernel_rfl) (by kernel_rfl) (by kernel_rfl) (fun _ _ _ h => h) (Or.inl ⟨by rfl, ?_⟩) (by assumption) ?_
    rotate_left 1
    · (intro w hSw; (try dsimp only at hSw); go_simp; try with_reducible rfl)
    try simp (maxSteps := 10000000) only [List.getElem_toArray, List.getElem_cons_succ, List.getElem_cons_zero, Act.put, List.setIfInBounds_toArray, List.set_cons_zero, List.set_cons_succ]
    refine wpAnyH_take (i := 3) (oi := _) (v := ?_) rfl (by kernel_rfl) (by kernel_rfl) (by kernel_rfl) (fun _ _ _ h => h) (Or.inl ⟨by rfl, ?_⟩) (by assumption) ?_
    rotate_left 1
    · (intro w hSw; (try dsimp only at hSw); go_simp; try with_reducible rfl)
    try simp (maxSteps := 10000000) only [List.getElem_toArray, List.getElem_cons_succ, List.getElem_cons_zero, Act.put, List.setIfInBounds_toArray, List.set_cons_zero, List.set_cons_succ]
    refine wpAnyH_take (i := 4) (oi := _) (v := ?_) rfl (by kernel_rfl) (by kernel_rfl) (by kernel_rfl) (fun _ _ _ h => h) (Or.inl ⟨by rfl, ?_⟩) (by assumption) ?_
    rotate_left 1
    · (intro w hSw; (try dsimp only at hSw); go_simp; try with_reducible rfl)
    try simp (maxSteps := 10000000) only [List.getElem_toArray, List.getElem_cons_succ, List.getElem_cons_zero, Act.put, List.setIfInBounds_toArray, List.set_cons_zero, List.set_cons_succ]
    refine wpAnyH_take (i := 5) (oi := _) (v := undef) rfl (by kernel_rfl) (by kernel_rfl) (by kernel_rfl) (fun _ _ _ h => h) (Or.inr ⟨by rfl, rfl⟩) (by assumption) ?_
    try simp (maxSteps := 10000000) only [List.getElem_toArray, List.getElem_cons_succ, List.getElem_cons_zero, Act.put, List.setIfInBounds_toArray, List.set_cons_zero, List.set_cons_succ]
    refine wpAnyH_take (i := 6) (oi := _) (v := undef) rfl (by kernel_rfl) (by kernel_rfl) (by kernel_rfl) (fun _ _ _ h => h) (Or.inr ⟨by rfl, rfl⟩) (by assumption) ?_
    try simp (maxSteps := 10000000) only [List.getElem_toArray, List.getElem_cons_succ, List.getElem_cons_zero, Act.put, List.setIfInBounds_toArray, List.set_cons_zero, List.set_cons_succ]
    refine wpAnyH_take (i := 7) (oi := _) (v := undef) rfl (by kernel_rfl) (by kernel_rfl) (by kernel_rfl) (fun _ _ _ h => h) (Or.inr ⟨by rfl, rfl⟩) (by assumption) ?_
    try simp (maxSteps := 10000000) only [List.getElem_toArray, List.getElem_cons_succ, List.getElem_cons_zero, Act.put, List.setIfInBounds_toArray, List.set_cons_zero, List.set_cons_succ]
    refine wpAnyH_take (i := 8) (oi := _) (v := undef) rfl (by kernel_rfl) (by kernel_rfl) (by kernel_rfl) (fun _ _ _ h => h) (Or.inr ⟨by rfl, rfl⟩) (by assumption) ?_
    try simp (maxSteps := 10000000) only [List.getElem_toArray, List.getElem_cons_succ, List.getElem_cons_zero, Act.put, List.setIfInBounds_toArray, List.set_cons_zero, List.set_cons_succ]
    refine wpAnyH_take (i := 9) (oi := _) (v := undef) rfl (by kernel_rfl) (by kernel_rfl) (by kernel_rfl) (fun _ _ _ h => h) (Or.inr ⟨by rfl, rfl⟩) (by assumption) ?_
    try simp (maxSteps := 10000000) only [List.getElem_toArray, List.getElem_cons_succ, List.getElem_cons_zero, Act.put, List.setIfInBounds_toArray, List.set_cons_zero, List.set_cons_succ]
    refine wpAnyH_take (i := 10) (oi := _) (v := undef) rfl (by kernel_rfl) (by kernel_rfl) (by kernel_rfl) (fun _ _ _ h => h) (Or.inr ⟨by rfl, rfl⟩) (by assumption) ?_
    try simp (maxSteps := 10000000) only [List.getElem_toArray, List.getElem_cons_succ, List.getElem_cons_zero, Act.put, List.setIfInBounds_toArray, List.set_cons_zero, List.set_cons_succ]
    refine wpAnyH_take (i := 11) (oi := _) (v := undef) rfl (by kernel_rfl) (by kernel_rfl) (by kernel_rfl) (fun _ _ _ h => h) (Or.inr ⟨by rfl, rfl⟩) (by assumption) ?_
    try simp (maxSteps := 10000000) only [List.getElem_toArray, List.getElem_cons_succ, List.getElem_cons_zero, Act.put, List.setIfInBounds_toArray, List.set_cons_zero, List.set_cons_succ]
    refine wpAnyH_take (i := 12) (oi := _) (v := undef) rfl (by kernel_rfl) (by kernel_rfl) (by kernel_rfl) (fun _ _ _ h => h) (Or.inr ⟨by rfl, rfl⟩) (by assumption) ?_
    try simp (maxSteps := 10000000) only [List.getElem_toArray, List.getElem_cons_succ, List.getElem_cons_zero, Act.put, List.setIfInBounds_toArray, List.set_cons_zero, List.set_cons_succ]
    refine wpAnyH_take (i := 13) (oi := _) (v := undef) rfl (by kernel_rfl) (by kernel_rfl) (by kernel_rfl) (fun _ _ _ h => h) (Or.inr ⟨by rfl, rfl⟩) (by assumption) ?_
    try simp (maxSteps := 10000000) only [List.getElem_toArray, List.getElem_cons_succ, List.getElem_cons_zero, Act.put, List.setIfInBounds_toArray, List.set_cons_zero, List.set_cons_succ]
    refine wpAnyH_take (i := 14) (oi := _) (v := undef) rfl (by kernel_rfl) (by kernel_rfl) (by kernel_rfl) (fun _ _ _ h => h) (Or.inr ⟨by rfl, rfl⟩) (by assumption) ?_
    try simp (maxSteps := 10000000) only [List.getElem_toArray, List.getElem_cons_succ, List.getElem_cons_zero, Act.put, List.setIfInBounds_toArray, List.set_cons_zero, List.set_cons_succ]
    refine wpAnyH_take (i := 15) (oi := _) (v := undef) rfl (by kernel_rfl) (by kernel_rfl) (by kernel_rfl) (fun _ _ _ h => h) (Or.inr ⟨by rfl, rfl⟩) (by assumption) ?_
    try simp (maxSteps := 10000000) only [List.getElem_toArray, List.getElem_cons_succ, List.getElem_cons_zero, Act.put, List.setIfInBounds_toArray, List.set_cons_zero, List.set_cons_succ]
    refine wpAnyH_take (i := 16) (oi := _) (v := undef) rfl (by kernel_rfl) (by kernel_rfl) (by kernel_rfl) (fun _ _ _ h => h) (Or.inr ⟨by rfl, rfl⟩) (by assumption) ?_
    try simp (maxSteps := 10000000) only [List.getElem_toArray, List.getElem_cons_succ, List.getElem_cons_zero, Act.put, List.setIfInBounds_toArray, List.set_cons_zero, List.set_cons_succ]
    refine wpAnyH_take (i := 17) (oi := _) (v := ?_) rfl (by kernel_rfl) (by kernel_rfl) (by kernel_rfl) (fun _ _ _ h => h) (Or.inl ⟨by rfl, ?_⟩) (by assumption) ?_
    rotate_left 1
    · (intro w hSw; (try dsimp only at hSw); go_simp; try with_reducible rfl)
    try simp (maxSteps := 10000000) only [List.getElem_toArray, List.getElem_cons_succ, List.getElem_cons_zero, Act.put, List.setIfInBounds_toArray, List.set_cons_zero, List.set_cons_succ]
    refine wpAnyH_take (i := 18) (oi := _) (v := ?_) rfl (by kernel_rfl) (by kernel_rfl) (by kernel_rfl) (fun _ _ _ h => h) (Or.inl ⟨by rfl, ?_⟩) (by assumption) ?_
    rotate_left 1
    · (intro w hSw; (try dsimp only at hSw); go_simp; try with_reducible rfl)
    try simp (maxSteps := 10000000) only [List.getElem_toArray, List.getElem_cons_succ, List.getElem_cons_zero, Act.put, List.setIfInBounds_toArray, List.set_cons_zero, List.set_cons_succ]
    refine wpAnyH_done (by kernel_rfl) ?_ _
    go_wp2
    go_ret
    exact ⟨rfl, below_and hBh.out (Nat.le_refl _) hDr⟩
end Go.Proofs.YtjacoodfhkaioabGreatDoor
namespace Go.Proofs.YtjacoodfhkaioabGreatDoor
open Go.ChangeShapes Go.WideShapes Go.ChangeAt Go.RowKit Go.Shelf
set_option linter.unusedSimpArgs false
set_option linter.unusedVariables false
set_option maxRecDepth 2000
theorem nil_noS : noS.toList = [] := by decide +kernel
theorem all_lean {T : Tm} (h : leanB T = false) : (parts T).all fairB = false := by
  rw [parts_eq]
  simp [fairB, h]
theorem all_flat {k : Int} {neg : Bool} {d : List Nat} {nm : ByteArray} {n : Int} {l : List Tm} {b : List Nat} (hk : ¬ (k = 4 ∨ k = 6)) (h : leanB (.mk k neg d nm n l b) = true) : (parts (.mk k neg d nm n l b)).all fairB = withinB (.mk k neg d nm n l b) := by
  have hp : parts (.mk k neg d nm n l b) = [.mk k neg d nm n l b] := by simp [parts, hk]
  rw [hp]
  simp [fairB, h]
theorem len0 {α : Type} {l : List α} (h : ¬ (l.length : Int) = 0) : (0 : Int) < (l.length : Int) := by omega
theorem ne_true {k : Int} {c : Int} (h : ¬ k = c) : (k != c) = true := by simpa using h
theorem eq_false' {k : Int} {c : Int} (h : ¬ k = c) : (k == c) = false := by simpa using h
abbrev May0 (T : Tm) (v : Value) (w : World) : Prop := Calls Tryz.prog 21 #[v] w fun e w' => e = .returned (.bool ((parts T).all fairB)) ∧ Below w.heap.size w w'
theorem lnil {α : Type} {l : List α} (h : (l.length : Int) = 0) : l = [] := List.eq_nil_of_length_eq_zero (by omega)
theorem may_k0 {od ol ob : Option Addr} {cd cl cb : Nat} {w : World} {neg : Bool} {d : List Nat} {nm : ByteArray} {n : Int} {l : List Tm} {b : List Nat} (hok : (Tm.mk 0 neg d nm n l b).ok1) (hcd : d.length ≤ cd) (hL : Ls (Low w) od (lim d) w) : May0 (.mk 0 neg d nm n l b) (tmV 0 neg (.slice od d.length cd) nm n (.slice ol l.length cl) (.slice ob b.length cb)) w := by
  obtain ⟨hd, hs, _, _, hm⟩ : d.length ≤ 1000000 ∧ nm.size ≤ 1000000 ∧ l.length ≤ 1000000 ∧ b.length ≤ 1000000 ∧ Lm 4294967296 d := hok
  by_cases c2 : nm.toList = []
  case neg => unfold May0; rw [all_lean (by simp [leanB, prT, eqF, nil_noS, *])]; exact bad2a od cd ol cl ob cb w neg _ nm n _ _ c2
  by_cases c3 : n = 0
  case neg => unfold May0; rw [all_lean (by simp [leanB, prT, eqF, nil_noS, *])]; exact bad3a od cd ol cl ob cb w neg _ nm n _ _ c2 (ne_true c3)
  by_cases c4 : (l.length : Int) = 0
  case neg => unfold May0; rw [all_lean (by have : l ≠ [] := (fun e => c4 (by rw [e]; rfl)); simp [leanB, prT, eqF, nil_noS, *])]; subst c3; exact bad4a od cd ol cl ob cb w neg _ nm _ _ c2 (len0 c4)
  by_cases c5 : (b.length : Int) = 0
  case neg => unfold May0; rw [all_lean (by have : b ≠ [] := (fun e => c5 (by rw [e]; rfl)); simp [leanB, prT, eqF, nil_noS, *])]; subst c3; rw [lnil c4]; exact bad5a od cd ol cl ob cb w neg _ nm _ c2 (len0 c5)
  subst c3
  have e4 := lnil c4
  have e5 := lnil c5
  subst e4 e5
  unfold May0
  rw [all_flat (by decide) (by simp [leanB, prT, eqF, nil_noS, *])]
  have := pass0 od cd ol cl ob cb w neg d nm c2 hd hm hcd hL
  simpa [withinB] using this
theorem may_k1 {od ol ob : Option Addr} {cd cl cb : Nat} {w : World} {neg : Bool} {d : List Nat} {nm : ByteArray} {n : Int} {l : List Tm} {b : List Nat} (hok : (Tm.mk 1 neg d nm n l b).ok1) (hTa : Tabs w) : May0 (.mk 1 neg d nm n l b) (tmV 1 neg (.slice od d.length cd) nm n (.slice ol l.length cl) (.slice ob b.length cb)) w := by
  obtain ⟨hd, hs, _, _, hm⟩ : d.length ≤ 1000000 ∧ nm.size ≤ 1000000 ∧ l.length ≤ 1000000 ∧ b.length ≤ 1000000 ∧ Lm 4294967296 d := hok
  by_cases c0 : neg = true
  · subst c0; unfold May0; rw [all_lean (by simp [leanB, prT, eqF])]; exact bad1a od cd ol cl ob cb w 1 _ nm n _ _ rfl
  have c0' : neg = false := by simpa using c0
  subst c0'
  by_cases c1 : (d.length : Int) = 0
  case neg => unfold May0; rw [all_lean (by have : d ≠ [] := (fun e => c1 (by rw [e]; rfl)); simp [leanB, prT, eqF, *])]; exact bad1b od cd ol cl ob cb w 1 _ nm n _ _ rfl (len0 c1)
  by_cases c3 : n = 0
  case neg => unfold May0; rw [all_lean (by simp [leanB, prT, eqF, *])]; rw [lnil c1]; exact bad3b od cd ol cl ob cb w nm n _ _ (ne_true c3)
  by_cases c4 : (l.length : Int) = 0
  case neg => unfold May0; rw [all_lean (by have : l ≠ [] := (fun e => c4 (by rw [e]; rfl)); simp [leanB, prT, eqF, *])]; subst c3; rw [lnil c1]; exact bad4b od cd ol cl ob cb w nm _ _ (len0 c4)
  by_cases c5 : (b.length : Int) = 0
  case neg => unfold May0; rw [all_lean (by have : b ≠ [] := (fun e => c5 (by rw [e]; rfl)); simp [leanB, prT, eqF, *])]; subst c3; rw [lnil c1, lnil c4]; exact bad5b od cd ol cl ob cb w nm _ (len0 c5)
  subst c3
  have e1 := lnil c1
  have e4 := lnil c4
  have e5 := lnil c5
  subst e1 e4 e5
  unfold May0
  rw [all_flat (by decide) (by simp [leanB, prT, eqF])]
  have := pass1 od cd ol cl ob cb w nm hs hTa
  simpa [withinB] using this
theorem may_k2 {od ol ob : Option Addr} {cd cl cb : Nat} {w : World} {neg : Bool} {d : List Nat} {nm : ByteArray} {n : Int} {l : List Tm} {b : List Nat} : May0 (.mk 2 neg d nm n l b) (tmV 2 neg (.slice od d.length cd) nm n (.slice ol l.length cl) (.slice ob b.length cb)) w := by
  by_cases c0 : neg = true
  · subst c0; unfold May0; rw [all_lean (by simp [leanB, prT, eqF])]; exact bad1a od cd ol cl ob cb w 2 _ nm n _ _ rfl
  have c0' : neg = false := by simpa using c0
  subst c0'
  by_cases c1 : (d.length : Int) = 0
  case neg => unfold May0; rw [all_lean (by have : d ≠ [] := (fun e => c1 (by rw [e]; rfl)); simp [leanB, prT, eqF, *])]; exact bad1b od cd ol cl ob cb w 2 _ nm n _ _ rfl (len0 c1)
  by_cases c2 : nm.toList = []
  case neg => unfold May0; rw [all_lean (by simp [leanB, prT, eqF, nil_noS, *])]; rw [lnil c1]; exact bad2b od cd ol cl ob cb w 2 nm n _ _ rfl rfl c2
  by_cases c4 : (l.length : Int) = 0
  case neg => unfold May0; rw [all_lean (by have : l ≠ [] := (fun e => c4 (by rw [e]; rfl)); simp [leanB, prT, eqF, nil_noS, *])]; rw [lnil c1]; exact bad4c od cd ol cl ob cb w nm n _ _ c2 (len0 c4)
  by_cases c5 : (b.length : Int) = 0
  case neg => unfold May0; rw [all_lean (by have : b ≠ [] := (fun e => c5 (by rw [e]; rfl)); simp [leanB, prT, eqF, nil_noS, *])]; rw [lnil c1, lnil c4]; exact bad5c od cd ol cl ob cb w nm n _ c2 (len0 c5)
  have e1 := lnil c1
  have e4 := lnil c4
  have e5 := lnil c5
  subst e1 e4 e5
  unfold May0
  rw [all_flat (by decide) (by simp [leanB, prT, eqF, nil_noS, *])]
  have := pass2 od cd ol cl ob cb w nm n c2
  simpa [withinB] using this
theorem may_k3 {od ol ob : Option Addr} {cd cl cb : Nat} {w : World} {neg : Bool} {d : List Nat} {nm : ByteArray} {n : Int} {l : List Tm} {b : List Nat} : May0 (.mk 3 neg d nm n l b) (tmV 3 neg (.slice od d.length cd) nm n (.slice ol l.length cl) (.slice ob b.length cb)) w := by
  by_cases c0 : neg = true
  · subst c0; unfold May0; rw [all_lean (by simp [leanB, prT, eqF])]; exact bad1a od cd ol cl ob cb w 3 _ nm n _ _ rfl
  have c0' : neg = false := by simpa using c0
  subst c0'
  by_cases c1 : (d.length : Int) = 0
  case neg => unfold May0; rw [all_lean (by have : d ≠ [] := (fun e => c1 (by rw [e]; rfl)); simp [leanB, prT, eqF, *])]; exact bad1b od cd ol cl ob cb w 3 _ nm n _ _ rfl (len0 c1)
  by_cases c2 : nm.toList = []
  case neg => unfold May0; rw [all_lean (by simp [leanB, prT, eqF, nil_noS, *])]; rw [lnil c1]; exact bad2b od cd ol cl ob cb w 3 nm n _ _ rfl rfl c2
  by_cases c4 : (l.length : Int) = 0
  case neg => unfold May0; rw [all_lean (by have : l ≠ [] := (fun e => c4 (by rw [e]; rfl)); simp [leanB, prT, eqF, nil_noS, *])]; rw [lnil c1]; exact bad4d od cd ol cl ob cb w nm n _ _ c2 (len0 c4)
  by_cases c5 : (b.length : Int) = 0
  case neg => unfold May0; rw [all_lean (by have : b ≠ [] := (fun e => c5 (by rw [e]; rfl)); simp [leanB, prT, eqF, nil_noS, *])]; rw [lnil c1, lnil c4]; exact bad5d od cd ol cl ob cb w nm n _ c2 (len0 c5)
  have e1 := lnil c1
  have e4 := lnil c4
  have e5 := lnil c5
  subst e1 e4 e5
  unfold May0
  rw [all_flat (by decide) (by simp [leanB, prT, eqF, nil_noS, *])]
  have := pass3 od cd ol cl ob cb w nm n c2
  simpa [withinB] using this
theorem may_k7 {od ol ob : Option Addr} {cd cl cb : Nat} {w : World} {neg : Bool} {d : List Nat} {nm : ByteArray} {n : Int} {l : List Tm} {b : List Nat} : May0 (.mk 7 neg d nm n l b) (tmV 7 neg (.slice od d.length cd) nm n (.slice ol l.length cl) (.slice ob b.length cb)) w := by
  by_cases c0 : neg = true
  · subst c0; unfold May0; rw [all_lean (by simp [leanB, prT, eqF])]; exact bad1a od cd ol cl ob cb w 7 _ nm n _ _ rfl
  have c0' : neg = false := by simpa using c0
  subst c0'
  by_cases c1 : (d.length : Int) = 0
  case neg => unfold May0; rw [all_lean (by have : d ≠ [] := (fun e => c1 (by rw [e]; rfl)); simp [leanB, prT, eqF, *])]; exact bad1b od cd ol cl ob cb w 7 _ nm n _ _ rfl (len0 c1)
  by_cases c2 : nm.toList = []
  case neg => unfold May0; rw [all_lean (by simp [leanB, prT, eqF, nil_noS, *])]; rw [lnil c1]; exact bad2b od cd ol cl ob cb w 7 nm n _ _ rfl rfl c2
  by_cases c3 : n = 0
  case neg => unfold May0; rw [all_lean (by simp [leanB, prT, eqF, nil_noS, *])]; rw [lnil c1]; exact bad3c od cd ol cl ob cb w 7 nm n _ _ rfl rfl rfl rfl c2 (ne_true c3)
  by_cases c4 : (l.length : Int) = 0
  case neg => unfold May0; rw [all_lean (by have : l ≠ [] := (fun e => c4 (by rw [e]; rfl)); simp [leanB, prT, eqF, nil_noS, *])]; subst c3; rw [lnil c1]; exact bad4e od cd ol cl ob cb w 7 nm _ _ rfl rfl rfl rfl rfl rfl c2 (len0 c4)
  subst c3
  have e1 := lnil c1
  have e4 := lnil c4
  subst e1 e4
  unfold May0
  rw [all_flat (by decide) (by simp [leanB, prT, eqF, nil_noS, *])]
  have := pass7 od cd ol cl ob cb w nm b.length c2
  simpa [withinB] using this
theorem may_kx {od ol ob : Option Addr} {cd cl cb : Nat} {w : World} {neg : Bool} {d : List Nat} {nm : ByteArray} {n : Int} {l : List Tm} {b : List Nat} {k : Int} (k0 : ¬ k = 0) (k1 : ¬ k = 1) (k2 : ¬ k = 2) (k3 : ¬ k = 3) (k4 : ¬ k = 4) (k6 : ¬ k = 6) (k7 : ¬ k = 7) : May0 (.mk k neg d nm n l b) (tmV k neg (.slice od d.length cd) nm n (.slice ol l.length cl) (.slice ob b.length cb)) w := by
  by_cases c0 : neg = true
  · subst c0; unfold May0; rw [all_lean (by simp [leanB, prT, eqF, *])]; exact bad1a od cd ol cl ob cb w k _ nm n _ _ (ne_true k0)
  have c0' : neg = false := by simpa using c0
  subst c0'
  by_cases c1 : (d.length : Int) = 0
  case neg => unfold May0; rw [all_lean (by have : d ≠ [] := (fun e => c1 (by rw [e]; rfl)); simp [leanB, prT, eqF, *])]; exact bad1b od cd ol cl ob cb w k _ nm n _ _ (ne_true k0) (len0 c1)
  by_cases c2 : nm.toList = []
  case neg => unfold May0; rw [all_lean (by simp [leanB, prT, eqF, nil_noS, *])]; rw [lnil c1]; exact bad2b od cd ol cl ob cb w k nm n _ _ (ne_true k0) (ne_true k1) c2
  by_cases c3 : n = 0
  case neg => unfold May0; rw [all_lean (by simp [leanB, prT, eqF, nil_noS, *])]; rw [lnil c1]; exact bad3c od cd ol cl ob cb w k nm n _ _ (ne_true k0) (ne_true k1) (ne_true k2) (ne_true k3) c2 (ne_true c3)
  by_cases c4 : (l.length : Int) = 0
  case neg => unfold May0; rw [all_lean (by have : l ≠ [] := (fun e => c4 (by rw [e]; rfl)); simp [leanB, prT, eqF, nil_noS, *])]; subst c3; rw [lnil c1]; exact bad4e od cd ol cl ob cb w k nm _ _ (ne_true k0) (ne_true k1) (ne_true k2) (ne_true k3) (ne_true k4) (ne_true k6) c2 (len0 c4)
  by_cases c5 : (b.length : Int) = 0
  case neg => unfold May0; rw [all_lean (by have : b ≠ [] := (fun e => c5 (by rw [e]; rfl)); simp [leanB, prT, eqF, nil_noS, *])]; subst c3; rw [lnil c1, lnil c4]; exact bad5g od cd ol cl ob cb w k nm _ (ne_true k0) (ne_true k1) (ne_true k2) (ne_true k3) (ne_true k4) (ne_true k6) (ne_true k7) c2 (len0 c5)
  subst c3
  have e1 := lnil c1
  have e4 := lnil c4
  have e5 := lnil c5
  subst e1 e4 e5
  unfold May0
  by_cases k5 : k = 5
  · subst k5
    rw [all_flat (by decide) (by simp [leanB, prT, eqF, nil_noS, *])]
    have := pass5 od cd ol cl ob cb w nm c2
    simpa [withinB] using this
  · rw [all_lean (by simp [leanB, prT, eqF, nil_noS, *])]
    exact passx od cd ol cl ob cb w k nm c2 (ne_true k0) (ne_true k1) (ne_true k2) (ne_true k3) (ne_true k4) (ne_true k6) (ne_true k7) (eq_false' k0) (eq_false' k1) (eq_false' k2) (eq_false' k3) (eq_false' k4) (eq_false' k5) (eq_false' k6) (eq_false' k7)
end Go.Proofs.YtjacoodfhkaioabGreatDoor
namespace Go.Proofs.YtjacoodfhkaioabGreatDoor
open Go.ChangeShapes Go.WideShapes Go.ChangeAt Go.RowKit Go.Shelf
set_option linter.unusedSimpArgs false
set_option linter.unusedVariables false
set_option maxRecDepth 2000
theorem all_partsL : ∀ l : List Tm, (partsL l).all fairB = l.all (fun t => (parts t).all fairB)
  | [] => by simp [partsL]
  | t :: l => by simp [partsL, all_partsL l]
set_option maxHeartbeats 4000000 in
set_option maxRecDepth 8000 in
theorem loop4 (od : Option Addr) (cd : Nat) (ol : Option Addr) (cl : Nat) (ob : Option Addr) (cb : Nat) (w : World) (nm : ByteArray) (l : List Tm) (hn : nm.toList = []) (h255 : (l.length : Int) ≤ 255) (htR : TR (Low w) w l ol) (hTa : Hid (Tabs w))
    (hIH : Hid (∀ (t : Tm) (v : Value) (w' : World), t ∈ l → TV (Low w') w' t v → Tabs w' → May0 t v w')) : MayC 4 false od 0 cd nm 0 ol l.length cl ob 0 cb w (l.all (fun t => (parts t).all fairB)) := by
  obtain ⟨kX, hBX, hz0⟩ := bx1 w (.int .i64 4) (.bool false) (.slice od 0 cd) (.string nm) (.int .i64 0) (.slice ol l.length cl) (.slice ob 0 cb) 26
  obtain ⟨R, hR⟩ : ∃ R, l.all (fun t => (parts t).all fairB) = R := ⟨_, rfl⟩
  unfold MayC
  rw [hR]
  have hHR := hid hR
  clear hR
  go_enter Tryz.func21, Tryz.ntmps21
  simp only [List.append_eq, List.cons_append, List.nil_append]
  go_wp2_with fail
  generalize (w.alloc (.cells #[.int .i64 4, .bool false, .slice od 0 cd, .string nm, .int .i64 0, .slice ol l.length cl, .slice ob 0 cb] 26)) = W0 at *
  go_loopg [3] l.length (fun t v3 wr => ∃ i : Nat, t + i = l.length ∧ v3 = .int .i64 (i : Int) ∧ Hid (∀ j x, j < i → l[j]? = some x → (parts x).all fairB = true) ∧ Bx w.heap.size (.int .i64 4) (.bool false) (.slice od 0 cd) (.string nm) (.int .i64 0) (.slice ol l.length cl) (.slice ob 0 cb) wr ∧ Below w.heap.size w wr)
  case atStart => exact ⟨0, by omega, rfl, hid (fun j x hj => by omega), kX, hBX⟩
  case round =>
    obtain ⟨i, hti, rfl, hH, kr, hBr⟩ := hrel
    clear kX hBX
    obtain ⟨x0, x1, x2, x3, x4, x5, x6⟩ := kr.res
    by_cases hil : i = l.length
    · subst hil
      have hRt : R = true := by
        rw [← hHR.out, List.all_eq_true]
        intro x hx
        obtain ⟨j, hj, he⟩ := List.getElem_of_mem hx
        exact hH.out j x hj (by rw [List.getElem?_eq_getElem hj, he])
      subst hRt
      clear hHR
      go_wp2
      go_ret
      exact ⟨rfl, hBr⟩
    · have hil' : i < l.length := by omega
      have hii : ((i : Nat) : Int) < ((l.length : Nat) : Int) := by omega
      obtain ⟨t, ht⟩ : ∃ t, l[i]? = some t := ⟨l[i], by simp [hil']⟩
      obtain ⟨a, k', neg', od', ld', cd', nm', n', ol', ll', cl', ob', lb', cb', rfl, hTv', y0, y1, y2, y3, y4, y5, y6⟩ := htR.get ht hBr
      have hHt := hid ht
      have hI := hIH.out t _ wr (List.mem_of_getElem? ht) hTv' (hTa.out.below hBr)
      have hHI := hid hI
      clear ht hI hTv'
      go_wp2_with fail
      refine hHI.out.mono ?_
      rintro e w2 ⟨rfl, b2⟩
      have hB2 := below_and hBr (Nat.le_refl _) b2
      have k2 := kr.below b2
      obtain ⟨bb, hbb⟩ : ∃ bb, (parts t).all fairB = bb := ⟨_, rfl⟩
      rw [hbb]
      have hHb := hid hbb
      clear hbb hHI x0 x1 x2 x3 x4 x5 x6 y0 y1 y2 y3 y4 y5 y6 b2 hBr kr
      cases bb with
      | false =>
        have hRf : R = false := by
          rw [← hHR.out]
          cases hq : l.all (fun t => (parts t).all fairB) with
          | false => rfl
          | true =>
            rw [List.all_eq_true] at hq
            have := hq t (List.mem_of_getElem? hHt.out)
            rw [hHb.out] at this; simp at this
        subst hRf
        clear hHR
        go_wp2
        go_ret
        exact ⟨rfl, hB2⟩
      | true =>
        go_wp2
        go_roundg (l.length - (i + 1))
        case measure => omega
        case rel =>
          refine ⟨i + 1, by omega, by go_num, hid (fun j x hj hx => ?_), k2, hB2⟩
          rcases Nat.lt_or_ge j i with h | h
          · exact hH.out j x h hx
          · have : j = i := by omega
            subst this
            rw [hHt.out] at hx
            injection hx with hx; subst hx
            exact hHb.out
set_option maxHeartbeats 4000000 in
set_option maxRecDepth 8000 in
theorem loop6 (od : Option Addr) (cd : Nat) (ol : Option Addr) (cl : Nat) (ob : Option Addr) (cb : Nat) (w : World) (nm : ByteArray) (l : List Tm) (hn : nm.toList = []) (h2 : ((l.length : Int) != 2) = false) (h255 : (l.length : Int) ≤ 255) (htR : TR (Low w) w l ol) (hTa : Hid (Tabs w))
    (hIH : Hid (∀ (t : Tm) (v : Value) (w' : World), t ∈ l → TV (Low w') w' t v → Tabs w' → May0 t v w')) : MayC 6 false od 0 cd nm 0 ol l.length cl ob 0 cb w (l.all (fun t => (parts t).all fairB)) := by
  obtain ⟨kX, hBX, hz0⟩ := bx1 w (.int .i64 6) (.bool false) (.slice od 0 cd) (.string nm) (.int .i64 0) (.slice ol l.length cl) (.slice ob 0 cb) 26
  obtain ⟨R, hR⟩ : ∃ R, l.all (fun t => (parts t).all fairB) = R := ⟨_, rfl⟩
  unfold MayC
  rw [hR]
  have hHR := hid hR
  clear hR
  go_enter Tryz.func21, Tryz.ntmps21
  simp only [List.append_eq, List.cons_append, List.nil_append]
  go_wp2_with fail
  generalize (w.alloc (.cells #[.int .i64 6, .bool false, .slice od 0 cd, .string nm, .int .i64 0, .slice ol l.length cl, .slice ob 0 cb] 26)) = W0 at *
  go_loopg [3] l.length (fun t v3 wr => ∃ i : Nat, t + i = l.length ∧ v3 = .int .i64 (i : Int) ∧ Hid (∀ j x, j < i → l[j]? = some x → (parts x).all fairB = true) ∧ Bx w.heap.size (.int .i64 6) (.bool false) (.slice od 0 cd) (.string nm) (.int .i64 0) (.slice ol l.length cl) (.slice ob 0 cb) wr ∧ Below w.heap.size w wr)
  case atStart => exact ⟨0, by omega, rfl, hid (fun j x hj => by omega), kX, hBX⟩
  case round =>
    obtain ⟨i, hti, rfl, hH, kr, hBr⟩ := hrel
    clear kX hBX
    obtain ⟨x0, x1, x2, x3, x4, x5, x6⟩ := kr.res
    by_cases hil : i = l.length
    · subst hil
      have hRt : R = true := by
        rw [← hHR.out, List.all_eq_true]
        intro x hx
        obtain ⟨j, hj, he⟩ := List.getElem_of_mem hx
        exact hH.out j x hj (by rw [List.getElem?_eq_getElem hj, he])
      subst hRt
      clear hHR
      go_wp2
      go_ret
      exact ⟨rfl, hBr⟩
    · have hil' : i < l.length := by omega
      have hii : ((i : Nat) : Int) < ((l.length : Nat) : Int) := by omega
      obtain ⟨t, ht⟩ : ∃ t, l[i]? = some t := ⟨l[i], by simp [hil']⟩
      obtain ⟨a, k', neg', od', ld', cd', nm', n', ol', ll', cl', ob', lb', cb', rfl, hTv', y0, y1, y2, y3, y4, y5, y6⟩ := htR.get ht hBr
      have hHt := hid ht
      have hI := hIH.out t _ wr (List.mem_of_getElem? ht) hTv' (hTa.out.below hBr)
      have hHI := hid hI
      clear ht hI hTv'
      go_wp2_with fail
      refine hHI.out.mono ?_
      rintro e w2 ⟨rfl, b2⟩
      have hB2 := below_and hBr (Nat.le_refl _) b2
      have k2 := kr.below b2
      obtain ⟨bb, hbb⟩ : ∃ bb, (parts t).all fairB = bb := ⟨_, rfl⟩
      rw [hbb]
      have hHb := hid hbb
      clear hbb hHI x0 x1 x2 x3 x4 x5 x6 y0 y1 y2 y3 y4 y5 y6 b2 hBr kr
      cases bb with
      | false =>
        have hRf : R = false := by
          rw [← hHR.out]
          cases hq : l.all (fun t => (parts t).all fairB) with
          | false => rfl
          | true =>
            rw [List.all_eq_true] at hq
            have := hq t (List.mem_of_getElem? hHt.out)
            rw [hHb.out] at this; simp at this
        subst hRf
        clear hHR
        go_wp2
        go_ret
        exact ⟨rfl, hB2⟩
      | true =>
        go_wp2
        go_roundg (l.length - (i + 1))
        case measure => omega
        case rel =>
          refine ⟨i + 1, by omega, by go_num, hid (fun j x hj hx => ?_), k2, hB2⟩
          rcases Nat.lt_or_ge j i with h | h
          · exact hH.out j x h hx
          · have : j = i := by omega
            subst this
            rw [hHt.out] at hx
            injection hx with hx; subst hx
            exact hHb.out
set_option maxHeartbeats 4000000 in
set_option maxRecDepth 8000 in
theorem long4 (od : Option Addr) (cd : Nat) (ol : Option Addr) (ll cl : Nat) (ob : Option Addr) (cb : Nat) (w : World) (nm : ByteArray) (hn : nm.toList = []) (h255 : (255 : Int) < (ll : Int)) : MayC 4 false od 0 cd nm 0 ol ll cl ob 0 cb w false := by
  go_enter Tryz.func21, Tryz.ntmps21
  simp only [List.append_eq, List.cons_append, List.nil_append]
  go_wp2
  go_ret
  exact ⟨rfl, (Below.refl _ w).alloc (Nat.le_refl _) _⟩
set_option maxHeartbeats 4000000 in
set_option maxRecDepth 8000 in
theorem long6 (od : Option Addr) (cd : Nat) (ol : Option Addr) (ll cl : Nat) (ob : Option Addr) (cb : Nat) (w : World) (nm : ByteArray) (hn : nm.toList = []) (h2 : ((ll : Int) != 2) = true) : MayC 6 false od 0 cd nm 0 ol ll cl ob 0 cb w false := by
  go_enter Tryz.func21, Tryz.ntmps21
  simp only [List.append_eq, List.cons_append, List.nil_append]
  go_wp2
  go_ret
  exact ⟨rfl, (Below.refl _ w).alloc (Nat.le_refl _) _⟩
end Go.Proofs.YtjacoodfhkaioabGreatDoor
namespace Go.Proofs.YtjacoodfhkaioabGreatDoor
open Go.ChangeShapes Go.WideShapes Go.ChangeAt Go.RowKit Go.Shelf
set_option linter.unusedSimpArgs false
set_option linter.unusedVariables false
set_option maxRecDepth 2000
theorem rmay_w : ∀ (N : Nat) (T : Tm) (v : Value) (w : World), tsz T ≤ N → (∀ p ∈ parts T, p.ok1) → TV (Low w) w T v → Tabs w → May0 T v w := by
  intro N
  induction N with
  | zero => intro T v w h; cases T; simp only [tsz] at h; omega
  | succ N ih =>
  intro T v w hN hok hT hTa
  have hok1 := hok T (by rw [parts_eq]; simp)
  cases T with | mk k neg d nm n l b =>
  have hIHg : k = 4 ∨ k = 6 → Hid (∀ (t : Tm) (v : Value) (w' : World), t ∈ l → TV (Low w') w' t v → Tabs w' → May0 t v w') := fun hk => hid (fun t v w' ht hV hTa' => by
    obtain ⟨i, hi⟩ := List.getElem?_of_mem ht
    refine ih t v w' (by have := tsz_mem hi; simp only [tsz] at hN; omega) (fun p hp => hok p ?_) hV hTa'
    have : parts (.mk k neg d nm n l b) = .mk k neg d nm n l b :: partsL l := by simp [parts, hk]
    rw [this]
    exact List.mem_cons_of_mem _ (mem_partsL hi hp))
  unfold TV at hT
  obtain ⟨od, cd, ol, cl, ob, cb, rfl, hL, hcd, hm, _, _, hcl, hTR⟩ := hT
  by_cases k0 : k = 0
  · subst k0; exact may_k0 hok1 hcd hL
  by_cases k1 : k = 1
  · subst k1; exact may_k1 hok1 hTa
  by_cases k2 : k = 2
  · subst k2; exact may_k2
  by_cases k3 : k = 3
  · subst k3; exact may_k3
  by_cases k7 : k = 7
  · subst k7; exact may_k7
  by_cases k4 : k = 4
  · subst k4
    by_cases c0 : neg = true
    · subst c0; unfold May0; rw [all_lean (by simp [leanB, prT, eqF])]; exact bad1a od cd ol cl ob cb w 4 _ nm n _ _ rfl
    have c0' : neg = false := by simpa using c0
    subst c0'
    by_cases c1 : (d.length : Int) = 0
    case neg => unfold May0; rw [all_lean (by have : d ≠ [] := (fun e => c1 (by rw [e]; rfl)); simp [leanB, prT, eqF, *])]; exact bad1b od cd ol cl ob cb w 4 _ nm n _ _ rfl (len0 c1)
    by_cases c2 : nm.toList = []
    case neg => unfold May0; rw [all_lean (by simp [leanB, prT, eqF, nil_noS, *])]; rw [lnil c1]; exact bad2b od cd ol cl ob cb w 4 nm n _ _ rfl rfl c2
    by_cases c3 : n = 0
    case neg => unfold May0; rw [all_lean (by simp [leanB, prT, eqF, nil_noS, *])]; rw [lnil c1]; exact bad3c od cd ol cl ob cb w 4 nm n _ _ rfl rfl rfl rfl c2 (ne_true c3)
    by_cases c5 : (b.length : Int) = 0
    case neg => unfold May0; rw [all_lean (by have : b ≠ [] := (fun e => c5 (by rw [e]; rfl)); simp [leanB, prT, eqF, nil_noS, *])]; subst c3; rw [lnil c1]; exact bad5e od cd ol cl ob cb w nm _ _ c2 (len0 c5)
    subst c3
    have e1 := lnil c1
    have e5 := lnil c5
    subst e1 e5
    have hle : leanB (.mk 4 false [] nm 0 l []) = true := by simp [leanB, prT, eqF, nil_noS, *]
    have hpp : (parts (.mk 4 false [] nm 0 l [])).all fairB = (withinB (.mk 4 false [] nm 0 l []) && l.all (fun t => (parts t).all fairB)) := by
      rw [parts_eq]
      simp only [List.all_cons, fairB, hle, Bool.true_and, Tm.kids]
      rw [← all_partsL]
      rfl
    unfold May0
    rw [hpp]
    by_cases h255 : (l.length : Int) ≤ 255
    · have hw : withinB (.mk 4 false [] nm 0 l []) = true := by simp [withinB]; omega
      rw [hw, Bool.true_and]
      exact loop4 od cd ol cl ob cb w nm l c2 h255 hTR (hid hTa) (hIHg (.inl rfl))
    · have hw : withinB (.mk 4 false [] nm 0 l []) = false := by simp [withinB]; omega
      rw [hw, Bool.false_and]
      exact long4 od cd ol l.length cl ob cb w nm c2 (by omega)
  by_cases k6 : k = 6
  · subst k6
    by_cases c0 : neg = true
    · subst c0; unfold May0; rw [all_lean (by simp [leanB, prT, eqF])]; exact bad1a od cd ol cl ob cb w 6 _ nm n _ _ rfl
    have c0' : neg = false := by simpa using c0
    subst c0'
    by_cases c1 : (d.length : Int) = 0
    case neg => unfold May0; rw [all_lean (by have : d ≠ [] := (fun e => c1 (by rw [e]; rfl)); simp [leanB, prT, eqF, *])]; exact bad1b od cd ol cl ob cb w 6 _ nm n _ _ rfl (len0 c1)
    by_cases c2 : nm.toList = []
    case neg => unfold May0; rw [all_lean (by simp [leanB, prT, eqF, nil_noS, *])]; rw [lnil c1]; exact bad2b od cd ol cl ob cb w 6 nm n _ _ rfl rfl c2
    by_cases c3 : n = 0
    case neg => unfold May0; rw [all_lean (by simp [leanB, prT, eqF, nil_noS, *])]; rw [lnil c1]; exact bad3c od cd ol cl ob cb w 6 nm n _ _ rfl rfl rfl rfl c2 (ne_true c3)
    by_cases c5 : (b.length : Int) = 0
    case neg => unfold May0; rw [all_lean (by have : b ≠ [] := (fun e => c5 (by rw [e]; rfl)); simp [leanB, prT, eqF, nil_noS, *])]; subst c3; rw [lnil c1]; exact bad5f od cd ol cl ob cb w nm _ _ c2 (len0 c5)
    subst c3
    have e1 := lnil c1
    have e5 := lnil c5
    subst e1 e5
    have hle : leanB (.mk 6 false [] nm 0 l []) = true := by simp [leanB, prT, eqF, nil_noS, *]
    have hpp : (parts (.mk 6 false [] nm 0 l [])).all fairB = (withinB (.mk 6 false [] nm 0 l []) && l.all (fun t => (parts t).all fairB)) := by
      rw [parts_eq]
      simp only [List.all_cons, fairB, hle, Bool.true_and, Tm.kids]
      rw [← all_partsL]
      rfl
    unfold May0
    rw [hpp]
    by_cases h2 : (l.length : Int) = 2
    · have hw : withinB (.mk 6 false [] nm 0 l []) = true := by simp [withinB]; omega
      rw [hw, Bool.true_and]
      exact loop6 od cd ol cl ob cb w nm l c2 (by simp; omega) (by omega) hTR (hid hTa) (hIHg (.inr rfl))
    · have hw : withinB (.mk 6 false [] nm 0 l []) = false := by simp [withinB]; omega
      rw [hw, Bool.false_and]
      exact long6 od cd ol l.length cl ob cb w nm c2 (by simp; omega)
  exact may_kx k0 k1 k2 k3 k4 k6 k7
set_option maxHeartbeats 1000000 in
theorem rMay_w (T : Tm) (v : Value) (w : World) (hok : ∀ p ∈ parts T, p.ok1) (hT : TV (Low w) w T v) (hTa : Tabs w) :
    Calls Tryz.prog 13 #[v] w fun e w' => e = .returned (.bool (mayB T)) ∧ Below w.heap.size w w' := by
  obtain ⟨k, neg, od, ld, cd, nm, n, ol, ll, cl, ob, lb, cb, rfl⟩ := hT.form
  obtain ⟨kX, hBX, hz0⟩ := bx1 w (.int .i64 k) (.bool neg) (.slice od ld cd) (.string nm) (.int .i64 n) (.slice ol ll cl) (.slice ob lb cb) 26
  have hTb : ∀ w', Below w.heap.size w w' → TV (Low w') w' T (tmV k neg (.slice od ld cd) nm n (.slice ol ll cl) (.slice ob lb cb)) := fun w' hb => tv_below hT hb
  obtain ⟨R, hR⟩ : ∃ R, mayB T = R := ⟨_, rfl⟩
  rw [hR]
  unfold mayB at hR
  have hHR := hid hR
  clear hR hT
  go_enter Tryz.func13, Tryz.ntmps13
  go_wp2_with fail
  generalize (w.alloc (.cells #[.int .i64 k, .bool neg, .slice od ld cd, .string nm, .int .i64 n, .slice ol ll cl, .slice ob lb cb] 26)) = w1 at *
  refine (rTree_w (tsz T) T _ _ (Nat.le_refl _) hok (hTb _ hBX)).mono ?_
  rintro e w2 ⟨rfl, b2⟩
  have hB2 := below_and hBX (Nat.le_refl _) b2
  obtain ⟨x0, x1, x2, x3, x4, x5, x6⟩ := (kX.below b2).res
  by_cases ht : treeN T ≤ 65536
  · have ht' : ((treeN T : Nat) : Int) ≤ 65536 := by omega
    have hRa : (parts T).all fairB = R := by rw [← hHR.out, decide_eq_true ht, Bool.true_and]
    have hHa := hid hRa
    clear ht hHR hRa
    go_wp2_with fail
    refine (rmay_w (tsz T) T _ _ (Nat.le_refl _) hok (hTb _ hB2) (hTa.below hB2)).mono ?_
    rintro e w3 ⟨rfl, b3⟩
    rw [hHa.out]
    have hB3 := below_and hB2 (Nat.le_refl _) b3
    go_wp2
    go_ret
    exact ⟨rfl, hB3⟩
  · have ht' : ¬ (((treeN T : Nat) : Int) ≤ 65536) := by omega
    have hRf : R = false := by rw [← hHR.out, decide_eq_false ht, Bool.false_and]
    subst hRf
    clear hHR ht
    go_wp2
    go_ret
    exact ⟨rfl, hB2⟩
end Go.Proofs.YtjacoodfhkaioabGreatDoor
namespace Go.Proofs.YtjacoodfhkaioabGreatDoor
open Go.ChangeShapes Go.WideShapes Go.ChangeAt Go.RowKit Go.Shelf
set_option linter.unusedSimpArgs false
set_option linter.unusedVariables false
set_option maxRecDepth 2000
mutual
theorem room_ok {Z : Nat → Prop} {w : World} {most : Int} (hm : most ≤ 1000000) : ∀ (T : Tm) (v : Value) (dp : Int), TV Z w T v → roomB most dp T = true → (∀ p ∈ parts T, p.ok1) ∧ (dep T : Int) ≤ dp + 1
  | .mk k neg d nm n l b, v, dp, h, hr => by
    unfold TV at h
    obtain ⟨od, cd, ol, cl, ob, cb, _, _, _, h3, _, _, _, h7⟩ := h
    unfold roomB at hr
    simp only [Bool.and_eq_true, decide_eq_true_eq] at hr
    obtain ⟨r1, r2, r3, r4, r5, r6⟩ := hr
    obtain ⟨g1, g2⟩ := room_okL hm l ol (dp - 1) h7 r6 (by omega)
    have hself : (Tm.mk k neg d nm n l b).ok1 := ⟨by omega, by omega, by omega, by omega, h3⟩
    refine ⟨fun p hp => ?_, ?_⟩
    · rw [parts_eq] at hp
      rcases List.mem_cons.1 hp with rfl | hp
      · exact hself
      · by_cases hk : k = 4 ∨ k = 6
        · simp only [Tm.kids, hk, if_true] at hp; exact g1 p hp
        · simp only [Tm.kids, hk, if_false, partsL, List.not_mem_nil] at hp
    · unfold dep
      split <;> omega
theorem room_okL {Z : Nat → Prop} {w : World} {most : Int} (hm : most ≤ 1000000) : ∀ (l : List Tm) (o : Option Addr) (dp : Int), TR Z w l o → roomsB most dp l = true → -1 ≤ dp → (∀ p ∈ partsL l, p.ok1) ∧ (depL l : Int) ≤ dp + 1
  | [], o, dp, _, _, h => ⟨by simp [partsL], by simp [depL]; omega⟩
  | t :: l, o, dp, h, hr, hd => by
    unfold TR at h
    obtain ⟨a, v, _, _, _, hT, hR⟩ := h
    unfold roomsB at hr
    rw [Bool.and_eq_true] at hr
    obtain ⟨g1, g2⟩ := room_ok hm t v dp hT hr.1
    obtain ⟨g3, g4⟩ := room_okL hm l _ dp hR hr.2 hd
    refine ⟨fun p hp => ?_, ?_⟩
    · simp only [partsL, List.mem_append] at hp
      rcases hp with hp | hp
      · exact g1 p hp
      · exact g3 p hp
    · simp only [depL]; omega
end
theorem tr_le {M M' p : Nat} (hM : M' = M + 1) (h : min p M' ≤ M) : p ≤ M := by subst hM; omega
theorem may_parts {T : Tm} (h : mayB T = true) : (parts T).length ≤ 65536 ∧ ∀ p ∈ parts T, fairB p = true := by
  unfold mayB at h
  rw [Bool.and_eq_true, List.all_eq_true] at h
  refine ⟨?_, h.2⟩
  have h1 : treeN T ≤ 65536 := of_decide_eq_true h.1
  exact tr_le (M := 65536) rfl h1
end Go.Proofs.YtjacoodfhkaioabGreatDoor
namespace Go.Proofs.YtjacoodfhkaioabGreatDoor
open Go.ChangeShapes Go.WideShapes Go.ChangeAt Go.RowKit Go.Shelf
set_option linter.unusedSimpArgs false
set_option linter.unusedVariables false
set_option maxRecDepth 2000
def tupT (l : List Tm) : Tm := .mk 4 false [] noS 0 l []
def binT (b : List Nat) : Tm := .mk 7 false [] noS 0 [] b
def numT (k n : Int) : Tm := .mk k false [] noS n [] []
theorem tv_tup {w : World} {ls : List Tm} {o : Option Addr} {c : Nat} (h : TR (Low w) w ls o) (hc : ls.length ≤ c) : TV (Low w) w (tupT ls) (tmV 4 false nilS noS 0 (.slice o ls.length c) nilS) := by
  unfold tupT TV
  exact ⟨none, 0, o, c, none, 0, rfl, Ls.nil _ _ _, by simp, Lm.nil _, LsB.nil _ _ _, by simp, hc, h⟩
theorem tv_bin {w : World} {b : List Nat} {o : Option Addr} {c : Nat} (h : LsB (Low w) o b w) (hc : b.length ≤ c) : TV (Low w) w (binT b) (tmV 7 false nilS noS 0 nilS (.slice o b.length c)) := by
  unfold binT TV
  exact ⟨none, 0, none, 0, o, c, rfl, Ls.nil _ _ _, by simp, Lm.nil _, h, hc, by simp, by unfold TR; trivial⟩
theorem parts_tup (l : List Tm) : parts (tupT l) = tupT l :: partsL l := by simp [tupT, parts]
theorem parts_bin (b : List Nat) : parts (binT b) = [binT b] := by simp [binT, parts]
theorem cpT_tup (l : List Tm) : cpT (tupT l) = tupT (cpL l) := by simp [tupT, cpT]
theorem cpT_bin (b : List Nat) : cpT (binT b) = binT b := by simp [binT, cpT, prT]
set_option maxHeartbeats 1000000 in
theorem Tuple_w (ls : List Tm) (o : Option Addr) (c : Nat) (w : World) (hc : ls.length ≤ c) (hlen : (partsL ls).length ≤ 499999) (hl : ls.length ≤ 1000000) (hok : ∀ p ∈ partsL ls, p.ok1) (hT : TR (Low w) w ls o) :
    Calls Tryz.prog 56 #[.slice o ls.length c] w fun e w' => ∃ v', e = .returned v' ∧ TV (Zw w.heap.size w') w' (tupT (cpL ls)) v' ∧ Below w.heap.size w w' := by
  obtain ⟨kX, hBX, hz0⟩ := bx1 w (.int .i64 0) (.bool false) nilS (.string noS) (.int .i64 0) nilS nilS 26
  go_enter Tryz.func56, Tryz.ntmps56
  go_wp2_with fail
  generalize (w.alloc (.cells #[.int .i64 0, .bool false, .slice none 0 0, .string { data := #[] }, .int .i64 0, .slice none 0 0, .slice none 0 0] 26)) = W0 at *
  refine (Copy_w (tupT ls) _ _ (by rw [parts_tup]; simp; omega) (by rw [parts_tup]; intro p hp; rcases List.mem_cons.1 hp with rfl | hp; exact ⟨by simp, by decide, hl, by simp, Lm.nil _⟩; exact hok p hp) (tv_tup (tr_below hT hBX) hc)).mono ?_
  rintro e w2 ⟨v2, rfl, hV, b2⟩
  rw [cpT_tup] at hV
  have hBX := below_and hBX (by omega) b2
  have kX := kX.below b2
  clear b2
  obtain ⟨k9, neg9, od9, ld9, cd9, nm9, n9, ol9, ll9, cl9, ob9, lb9, cb9, rfl⟩ := hV.form
  have hf9 := kX.fr
  obtain ⟨x0, x1, x2, x3, x4, x5, x6⟩ := kX.res
  have hput := kX.put (b0 := .int .i64 k9) (b1 := .bool neg9) (b2 := .slice od9 ld9 cd9) (b3 := .string nm9) (b4 := .int .i64 n9) (b5 := .slice ol9 ll9 cl9) (b6 := .slice ob9 lb9 cb9)
  have hon := only_put w2 w.heap.size (.int .i64 k9) (.bool neg9) (.slice od9 ld9 cd9) (.string nm9) (.int .i64 n9) (.slice ol9 ll9 cl9) (.slice ob9 lb9 cb9)
  obtain ⟨r0, r1, r2, r3, r4, r5, r6⟩ := hput.res
  have hfin := hid (zw_move (S' := w.heap.size) hV (fun k hk _ => hon.2.2 k (by omega)) (by omega))
  have hBf := hBX.trans (hon.below (B := w.heap.size) (by omega))
  clear hV hon kX hput hBX
  go_wp2
  exact bodyPost_ret (v := tmV k9 neg9 (.slice od9 ld9 cd9) nm9 n9 (.slice ol9 ll9 cl9) (.slice ob9 lb9 cb9)) (by simp [results, Tryz.results56, go_sem, r0, r1, r2, r3, r4, r5, r6]) rfl ⟨_, rfl, hfin.out, hBf⟩
set_option maxHeartbeats 1000000 in
theorem Bin_w (b : List Nat) (o : Option Addr) (c : Nat) (w : World) (hc : b.length ≤ c) (hl : b.length ≤ 1000000) (hT : LsB (Low w) o b w) :
    Calls Tryz.prog 82 #[.slice o b.length c] w fun e w' => ∃ v', e = .returned v' ∧ TV (Zw w.heap.size w') w' (binT b) v' ∧ Below w.heap.size w w' := by
  obtain ⟨kX, hBX, hz0⟩ := bx1 w (.int .i64 0) (.bool false) nilS (.string noS) (.int .i64 0) nilS nilS 26
  go_enter Tryz.func82, Tryz.ntmps82
  go_wp2_with fail
  generalize (w.alloc (.cells #[.int .i64 0, .bool false, .slice none 0 0, .string { data := #[] }, .int .i64 0, .slice none 0 0, .slice none 0 0] 26)) = W0 at *
  refine (Copy_w (binT b) _ _ (by rw [parts_bin]; simp) (by rw [parts_bin]; intro p hp; simp at hp; subst hp; exact ⟨by simp, by decide, by simp, hl, Lm.nil _⟩) (tv_bin ((hT.zs (fun k hk => hBX.block k hk)).mono (fun k hk _ => hk)) hc)).mono ?_
  rintro e w2 ⟨v2, rfl, hV, b2⟩
  rw [cpT_bin] at hV
  have hBX := below_and hBX (by omega) b2
  have kX := kX.below b2
  clear b2
  obtain ⟨k9, neg9, od9, ld9, cd9, nm9, n9, ol9, ll9, cl9, ob9, lb9, cb9, rfl⟩ := hV.form
  have hf9 := kX.fr
  obtain ⟨x0, x1, x2, x3, x4, x5, x6⟩ := kX.res
  have hput := kX.put (b0 := .int .i64 k9) (b1 := .bool neg9) (b2 := .slice od9 ld9 cd9) (b3 := .string nm9) (b4 := .int .i64 n9) (b5 := .slice ol9 ll9 cl9) (b6 := .slice ob9 lb9 cb9)
  have hon := only_put w2 w.heap.size (.int .i64 k9) (.bool neg9) (.slice od9 ld9 cd9) (.string nm9) (.int .i64 n9) (.slice ol9 ll9 cl9) (.slice ob9 lb9 cb9)
  obtain ⟨r0, r1, r2, r3, r4, r5, r6⟩ := hput.res
  have hfin := hid (zw_move (S' := w.heap.size) hV (fun k hk _ => hon.2.2 k (by omega)) (by omega))
  have hBf := hBX.trans (hon.below (B := w.heap.size) (by omega))
  clear hV hon kX hput hBX
  go_wp2
  exact bodyPost_ret (v := tmV k9 neg9 (.slice od9 ld9 cd9) nm9 n9 (.slice ol9 ll9 cl9) (.slice ob9 lb9 cb9)) (by simp [results, Tryz.results82, go_sem, r0, r1, r2, r3, r4, r5, r6]) rfl ⟨_, rfl, hfin.out, hBf⟩
set_option maxHeartbeats 1000000 in
theorem Pid_w (n : Int) (w : World) : Calls Tryz.prog 83 #[.int .i64 n] w fun e w' => e = .returned (tmV 3 false nilS noS n nilS nilS) ∧ Below w.heap.size w w' := by
  go_enter Tryz.func83, Tryz.ntmps83
  go_wp2
  exact bodyPost_ret (v := tmV 3 false nilS noS n nilS nilS) (by simp [results, Tryz.results83, go_sem]) rfl ⟨rfl, (Below.refl _ w).alloc (Nat.le_refl _) _⟩
set_option maxHeartbeats 1000000 in
theorem Ref_w (n : Int) (w : World) : Calls Tryz.prog 84 #[.int .i64 n] w fun e w' => e = .returned (tmV 2 false nilS noS n nilS nilS) ∧ Below w.heap.size w w' := by
  go_enter Tryz.func84, Tryz.ntmps84
  go_wp2
  exact bodyPost_ret (v := tmV 2 false nilS noS n nilS nilS) (by simp [results, Tryz.results84, go_sem]) rfl ⟨rfl, (Below.refl _ w).alloc (Nat.le_refl _) _⟩
end Go.Proofs.YtjacoodfhkaioabGreatDoor
namespace Go.Proofs.YtjacoodfhkaioabGreatDoor
open Go.ChangeShapes Go.WideShapes Go.ChangeAt Go.RowKit Go.Shelf
set_option linter.unusedSimpArgs false
set_option linter.unusedVariables false
set_option maxRecDepth 2000
theorem bytes_nil {s : ByteArray} (h : s.toList = []) : s = noS := by
  have h1 := isEmpty_bytes s
  rw [h] at h1
  have h2 : s.data.toList = [] := by
    have : decide (s.data.toList ≠ []) = false := by rw [← h1]; rfl
    simpa using this
  cases s with | mk a =>
  simp at h2
  subst h2
  rfl
theorem prT_lean {T : Tm} (h : leanB T = true) : prT T = T := by
  cases T with | mk k neg d nm n l b =>
  unfold leanB at h
  obtain ⟨P, hP⟩ : ∃ P, prT (.mk k neg d nm n l b) = P := ⟨_, rfl⟩
  rw [hP] at h ⊢
  unfold prT at hP
  by_cases e0 : k = 0
  · subst e0; simp at hP; subst hP; simp [eqF, nil_noS] at h; obtain ⟨⟨⟨h1, rfl⟩, rfl⟩, rfl⟩ := h; rw [bytes_nil h1]
  by_cases e1 : k = 1
  · subst e1; simp at hP; subst hP; simp [eqF, nil_noS] at h; obtain ⟨⟨⟨⟨rfl, rfl⟩, rfl⟩, rfl⟩, rfl⟩ := h; rfl
  by_cases e2 : k = 2
  · subst e2; simp at hP; subst hP; simp [eqF, nil_noS] at h; obtain ⟨⟨⟨⟨rfl, h1⟩, rfl⟩, rfl⟩, rfl⟩ := h; rw [bytes_nil h1]
  by_cases e3 : k = 3
  · subst e3; simp at hP; subst hP; simp [eqF, nil_noS] at h; obtain ⟨⟨⟨⟨rfl, h1⟩, rfl⟩, rfl⟩, rfl⟩ := h; rw [bytes_nil h1]
  by_cases e4 : k = 4
  · subst e4; simp at hP; subst hP; simp [eqF, nil_noS] at h; obtain ⟨⟨⟨⟨rfl, h1⟩, rfl⟩, rfl⟩, rfl⟩ := h; rw [bytes_nil h1]
  by_cases e6 : k = 6
  · subst e6; simp at hP; subst hP; simp [eqF, nil_noS] at h; obtain ⟨⟨⟨⟨rfl, h1⟩, rfl⟩, rfl⟩, rfl⟩ := h; rw [bytes_nil h1]
  by_cases e7 : k = 7
  · subst e7; simp at hP; subst hP; simp [eqF, nil_noS] at h; obtain ⟨⟨⟨⟨rfl, h1⟩, rfl⟩, rfl⟩, rfl⟩ := h; rw [bytes_nil h1]
  simp only [e0, e1, e2, e3, e4, e6, e7, if_false] at hP
  subst hP
  simp [eqF, nil_noS] at h
  obtain ⟨⟨⟨⟨⟨⟨rfl, rfl⟩, h1⟩, rfl⟩, rfl⟩, rfl⟩, rfl⟩ := h
  rw [bytes_nil h1]
theorem fair_lean {T : Tm} (h : fairB T = true) : leanB T = true := by
  unfold fairB at h
  rw [Bool.and_eq_true] at h
  exact h.1
end Go.Proofs.YtjacoodfhkaioabGreatDoor
namespace Go.Proofs.YtjacoodfhkaioabGreatDoor
open Go.ChangeShapes Go.WideShapes Go.ChangeAt Go.RowKit Go.Shelf
set_option linter.unusedSimpArgs false
set_option linter.unusedVariables false
set_option maxRecDepth 2000
theorem RC.snoc {Z : Nat → Prop} {w : World} {t : Tm} {k : Int} {neg : Bool} {od : Option Addr} {ld cd : Nat} {nm : ByteArray} {n : Int} {ol : Option Addr} {ll cl : Nat} {ob : Option Addr} {lb cb : Nat} (ht : TV Z w t (tmV k neg (.slice od ld cd) nm n (.slice ol ll cl) (.slice ob lb cb))) :
    ∀ {l : List Tm} {xs : List Value}, RC Z w l xs → RC Z w (l ++ [t]) (xs ++ [.int .i64 k, .bool neg, .slice od ld cd, .string nm, .int .i64 n, .slice ol ll cl, .slice ob lb cb])
  | [], xs, h => by
    have : xs = [] := h
    subst this
    exact ⟨_, _, _, _, _, _, _, _, _, _, _, _, _, [], ht, rfl, rfl⟩
  | q :: l, xs, h => by
    obtain ⟨k', neg', od', ld', cd', nm', n', ol', ll', cl', ob', lb', cb', ys, hq, rfl, hr⟩ := h
    exact ⟨_, _, _, _, _, _, _, _, _, _, _, _, _, _, hq, rfl, hr.snoc ht⟩
theorem RC.mono {Z Z' : Nat → Prop} {w : World} (hb : ∀ k, k < w.heap.size → Z k → Z' k) : ∀ {l : List Tm} {xs : List Value}, RC Z w l xs → RC Z' w l xs
  | [], xs, h => h
  | t :: l, xs, h => by
    obtain ⟨k, neg, od, ld, cd, nm, n, ol, ll, cl, ob, lb, cb, ys, ht, rfl, hr⟩ := h
    exact ⟨k, neg, od, ld, cd, nm, n, ol, ll, cl, ob, lb, cb, ys, TV.mono hb _ _ ht, rfl, hr.mono hb⟩
/-- what Items answers -/
def ItP (S : Nat) (its : List Tm) (r : Bool) (e : Ending) (w' : World) : Prop := (r = true ∧ ∃ o c, e = .returned (.tuple #[.slice o its.length c, .bool true]) ∧ TR (Zw S w') w' (cpL its) o) ∨ (r = false ∧ e = .returned (.tuple #[.slice none 0 0, .bool false]))
theorem ItP.no {S : Nat} {its : List Tm} {w' : World} : ItP S its false (.returned (.tuple #[.slice none 0 0, .bool false])) w' := .inr ⟨rfl, rfl⟩
end Go.Proofs.YtjacoodfhkaioabGreatDoor
namespace Go.Proofs.YtjacoodfhkaioabGreatDoor
open Go.ChangeShapes Go.WideShapes Go.ChangeAt Go.ChangeMaps Go.RowKit Go.Shelf
set_option linter.unusedSimpArgs false
set_option linter.unusedVariables false
set_option maxRecDepth 2000
def okRow (t : Tm) : Bool := roomB 40 8 t && mayB t
theorem TR.mem {Z : Nat → Prop} {w : World} : ∀ {l : List Tm} {o : Option Addr} {t : Tm}, TR Z w l o → t ∈ l → ∃ v, TV Z w t v
  | [], _, _, _, h => by simp at h
  | q :: l, o, t, h, hm => by
    unfold TR at h
    obtain ⟨a, v, _, _, _, hT, hR⟩ := h
    rcases List.mem_cons.1 hm with rfl | hm
    · exact ⟨v, hT⟩
    · exact TR.mem hR hm
set_option maxHeartbeats 2000000 in
set_option maxRecDepth 4000 in
theorem Rooms_w (most : Nat) (hm : most ≤ 1000) (l : List Tm) (o : Option Addr) (c : Nat) (w : World) (hTR : TR (Low w) w l o) (hTa : Tabs w) :
    Calls Tryz.prog 5 #[.slice o l.length c, .int .i64 (most : Int)] w fun e w' => e = .returned (.bool (decide (l.length ≤ most) && l.all okRow)) ∧ Below w.heap.size w w' := by
  obtain ⟨R, hR⟩ : ∃ R, (decide (l.length ≤ most) && l.all okRow) = R := ⟨_, rfl⟩
  rw [hR]
  have hHR := hid hR
  clear hR
  by_cases hl : most < l.length
  · have hl' : (most : Int) < (l.length : Int) := by omega
    have hRf : R = false := by rw [← hHR.out, decide_eq_false (by omega), Bool.false_and]
    subst hRf
    clear hHR
    go_enter Tryz.func5, Tryz.ntmps5
    go_wp2
    go_ret
    exact ⟨rfl, Below.refl _ _⟩
  have hl' : ¬ ((most : Int) < (l.length : Int)) := by omega
  have hHR2 : Hid (l.all okRow = R) := hid (by rw [← hHR.out, decide_eq_true (by omega), Bool.true_and])
  have hll : l.length ≤ 1000 := by omega
  clear hHR
  go_enter Tryz.func5, Tryz.ntmps5
  go_wp2_with fail
  clear hl hl'
  go_loopg [5] l.length (fun t v5 wr => ∃ i : Nat, t + i = l.length ∧ v5 = .int .i64 (i : Int) ∧ Hid (∀ j x, j < i → l[j]? = some x → okRow x = true) ∧ Below w.heap.size w wr)
  case atStart => exact ⟨0, by omega, rfl, hid (fun j x hj => by omega), Below.refl _ _⟩
  case round =>
    obtain ⟨i, hti, rfl, hH, hBr⟩ := hrel
    by_cases hil : i = l.length
    · subst hil
      have hRt : R = true := by
        rw [← hHR2.out, List.all_eq_true]
        intro x hx
        obtain ⟨j, hj, he⟩ := List.getElem_of_mem hx
        exact hH.out j x hj (by rw [List.getElem?_eq_getElem hj, he])
      subst hRt
      go_wp2
      go_ret
      exact ⟨rfl, hBr⟩
    · have hil' : i < l.length := by omega
      have hii : ((i : Nat) : Int) < ((l.length : Nat) : Int) := by omega
      obtain ⟨t, ht⟩ : ∃ t, l[i]? = some t := ⟨l[i], by simp [hil']⟩
      obtain ⟨a, k', neg', od', ld', cd', nm', n', ol', ll', cl', ob', lb', cb', rfl, hTv', y0, y1, y2, y3, y4, y5, y6⟩ := hTR.get ht hBr
      have hHt := hid ht
      have hRf : okRow t = false → R = false := fun hf => by
        rw [← hHR2.out]
        cases hq : l.all okRow with
        | false => rfl
        | true =>
          rw [List.all_eq_true] at hq
          have := hq t (List.mem_of_getElem? ht)
          rw [hf] at this; simp at this
      have hHf := hid hRf
      clear ht hRf
      go_wp2_with fail
      refine (Room_w 40 (by omega) (tsz t) t _ 8 _ (Nat.le_refl _) (by omega) (by omega) hTv').mono ?_
      rintro e w2 ⟨rfl, b2⟩
      have hB2 := below_and hBr (Nat.le_refl _) b2
      have hTv2 := tv_below hTv' b2
      obtain ⟨bb, hbb⟩ : ∃ bb, roomB 40 8 t = bb := ⟨_, rfl⟩
      rw [hbb]
      cases bb with
      | false =>
        have hRf2 : R = false := hHf.out (by simp [okRow, hbb])
        subst hRf2
        clear hbb y0 y1 y2 y3 y4 y5 y6 hHR2 hHf
        go_wp2
        go_ret
        exact ⟨rfl, hB2⟩
      | true =>
        obtain ⟨hokt, _⟩ := room_ok (by omega) t _ 8 hTv' hbb
        obtain ⟨a3, k3, neg3, od3, ld3, cd3, nm3, n3, ol3, ll3, cl3, ob3, lb3, cb3, ea, hTv3, z0, z1, z2, z3, z4, z5, z6⟩ := hTR.get hHt.out hB2
        injection ea with ea
        subst ea
        have hHbb := hid hbb
        have hHok := hid hokt
        clear hbb hokt y0 y1 y2 y3 y4 y5 y6 hTv' hTv2
        go_wp2_with fail
        refine (rMay_w t _ _ hHok.out hTv3 (hTa.below hB2)).mono ?_
        rintro e w3 ⟨rfl, b3⟩
        have hB3 := below_and hB2 (Nat.le_refl _) b3
        obtain ⟨mm, hmm⟩ : ∃ mm, mayB t = mm := ⟨_, rfl⟩
        rw [hmm]
        have hHm := hid hmm
        clear hmm z0 z1 z2 z3 z4 z5 z6 hTv3 hHok
        cases mm with
        | false =>
          have hRf2 : R = false := hHf.out (by simp [okRow, hHm.out])
          subst hRf2
          clear hHR2 hHf
          go_wp2
          go_ret
          exact ⟨rfl, hB3⟩
        | true =>
          go_wp2
          go_roundg (l.length - (i + 1))
          case measure => omega
          case rel =>
            refine ⟨i + 1, by omega, by go_num, hid (fun j x hj hx => ?_), hB3⟩
            rcases Nat.lt_or_ge j i with h | h
            · exact hH.out j x h hx
            · have : j = i := by omega
              subst this
              rw [hHt.out] at hx
              injection hx with hx; subst hx
              simp [okRow, hHbb.out, hHm.out]
end Go.Proofs.YtjacoodfhkaioabGreatDoor
