/- Texts of mine, one behind the other: BigRNorm, BigRPlus, BigOpen, BigOrd, BigRSub. -/
import Derived.Test.YtjacoodfhkaioabGreatDoorSrB
import Derived.Laws.OwnMore
import Derived.Deep.RegionHeld3
import Derived.ChangeMaps5
import Derived.Lib.SmallJoins
import Derived.ChangeSlices
namespace Go.Proofs.YtjacoodfhkaioabGreatDoor
open Go.ChangeShapes Go.WideShapes Go.ChangeAt Go.RowKit
set_option linter.unusedSimpArgs false
set_option linter.unusedVariables false
set_option maxRecDepth 2000
set_option maxHeartbeats 1000000 in
theorem rnorm_raw (neg : Bool) (ao : Option Addr) (cap : Nat) (l : List Nat) (w : World) (hl : Lm 4294967296 l) (hlen : l.length ≤ 1000000) (hcap : l.length ≤ cap) (h : Lies ao l w) :
    Calls Tryz.prog 36 #[.agg #[.bool neg, .slice ao l.length cap]] w fun e w' => ∃ sl, e = .returned (.agg #[.bool (neg && decide (gval 4294967296 l ≠ 0)), sl]) ∧ Fr w.heap.size sl (glim 4294967296 (gval 4294967296 l)) w' ∧ Below w.heap.size w w' := by
  obtain ⟨bR, hbR⟩ : ∃ bR, (neg && decide (gval 4294967296 l ≠ 0)) = bR := ⟨_, rfl⟩
  obtain ⟨G, hG⟩ : ∃ G, glim 4294967296 (gval 4294967296 l) = G := ⟨_, rfl⟩
  rw [hbR, hG]
  have hbR' := hid hbR
  have hG' := hid hG
  clear hbR hG
  obtain ⟨kA, kB, hB0, hz0⟩ := boxes2 w (.bool neg) (.slice ao l.length cap) (.bool false) (.slice none 0 0) 73 73
  have hLW := h.below hB0
  go_enter Tryz.func36, Tryz.ntmps36
  go_wp2
  generalize ((w.alloc (.cells #[.bool neg, .slice ao l.length cap] 73)).alloc (.cells #[.bool false, .slice none 0 0] 73)) = W at *
  obtain ⟨f1, f2, f3, f4⟩ := id kA
  obtain ⟨f5, f6, f7, f8⟩ := id kB
  go_loopw [3] (fun v wr => ∃ k : Nat, v = .int .i64 (k : Int) ∧ k ≤ l.length ∧ wr = W ∧ Hid (∀ j x, k ≤ j → l[j]? = some x → x = 0)) (fun v _ => (intOf v).toNat)
  case atStart => exact ⟨l.length, rfl, Nat.le_refl _, rfl, hid fun j x hj hx => absurd (List.getElem?_eq_some_iff.1 hx).1 (by omega)⟩
  case round =>
    obtain ⟨k, rfl, hk, rfl, hH⟩ := hrel
    by_cases hgo : k = 0 ∨ ∃ x, l[k - 1]? = some x ∧ x ≠ 0
    · have hgl := hid (glim_take (by omega) hl hk hH.out hgo)
      have hkc : (k : Int) ≤ (cap : Int) := by omega
      have hnz : Hid (decide (gval 4294967296 l ≠ 0) = decide (0 < k)) := hid (by
        rw [Bool.eq_iff_iff]; simp only [decide_eq_true_eq]
        constructor
        · intro h1
          refine Nat.pos_of_ne_zero fun e => h1 ?_
          have := hgl.out
          rw [e, List.take_zero] at this
          exact (glim_nil (by omega)).1 this
        · intro h1 h2
          have := hgl.out
          rw [h2, glim_zero] at this
          have := congrArg List.length this
          rw [List.length_take] at this
          simp at this; omega)
      by_cases h0 : k = 0
      · subst h0
        have hGe : G = [] := by rw [← hG'.out, hgl.out, List.take_zero]
        have hbe : bR = false := by rw [← hbR'.out, hnz.out]; simp
        subst hGe hbe
        clear hgl hnz hgo hH hG' hbR'
        cases ao with
        | none =>
          cases neg
          · go_wp2
            refine wp_region_held_drew (S := fun w' => w'.cell? ⟨w.heap.size, 0, none⟩ = some (.bool false) ∧ w'.cell? ⟨w.heap.size, 1, none⟩ = some (.slice none l.length cap)) (by kernel_rfl) (by go_keep) (fun hHeld => ?_)
            refine wpAnyH_take (i := 0) (oi := _) (v := ?_) rfl (by kernel_rfl) (by kernel_rfl) (by kernel_rfl) (fun _ _ _ h => h) (Or.inl ⟨by rfl, ?_⟩) (by assumption) ?_
            rotate_left 1
            · (intro w hSw; (try dsimp only at hSw); go_simp; try with_reducible rfl)
            try simp (maxSteps := 10000000) only [List.getElem_toArray, List.getElem_cons_succ, List.getElem_cons_zero, Act.put, List.setIfInBounds_toArray, List.set_cons_zero, List.set_cons_succ]
            refine wpAnyH_take (i := 1) (oi := _) (v := ?_) rfl (by kernel_rfl) (by kernel_rfl) (by kernel_rfl) (fun _ _ _ h => h) (Or.inl ⟨by rfl, ?_⟩) (by assumption) ?_
            rotate_left 1
            · (intro w hSw; (try dsimp only at hSw); go_simp; try with_reducible rfl)
            try simp (maxSteps := 10000000) only [List.getElem_toArray, List.getElem_cons_succ, List.getElem_cons_zero, Act.put, List.setIfInBounds_toArray, List.set_cons_zero, List.set_cons_succ]
            refine wpAnyH_take (i := 2) (oi := _) (v := ?_) rfl (by kernel_rfl) (by kernel_rfl) (by kernel_rfl) (fun _ _ _ h => h) (Or.inl ⟨by rfl, ?_⟩) (by assumption) ?_
            rotate_left 1
            · (intro w hSw; (try dsimp only at hSw); go_simp; try with_reducible rfl)
            try simp (maxSteps := 10000000) only [List.getElem_toArray, List.getElem_cons_succ, List.getElem_cons_zero, Act.put, List.setIfInBounds_toArray, List.set_cons_zero, List.set_cons_succ]
            refine wpAnyH_take (i := 3) (oi := _) (v := undef) rfl (by kernel_rfl) (by kernel_rfl) (by kernel_rfl) (fun _ _ _ h => h) (Or.inr ⟨by rfl, rfl⟩) (by assumption) ?_
            try simp (maxSteps := 10000000) only [List.getElem_toArray, List.getElem_cons_succ, List.getElem_cons_zero, Act.put, List.setIfInBounds_toArray, List.set_cons_zero, List.set_cons_succ]
            refine wpAnyH_take (i := 4) (oi := _) (v := undef) rfl (by kernel_rfl) (by kernel_rfl) (by kernel_rfl) (fun _ _ _ h => h) (Or.inr ⟨by rfl, rfl⟩) (by assumption) ?_
            try simp (maxSteps := 10000000) only [List.getElem_toArray, List.getElem_cons_succ, List.getElem_cons_zero, Act.put, List.setIfInBounds_toArray, List.set_cons_zero, List.set_cons_succ]
            refine wpAnyH_take (i := 5) (oi := _) (v := ?_) rfl (by kernel_rfl) (by kernel_rfl) (by kernel_rfl) (fun _ _ _ h => h) (Or.inl ⟨by rfl, ?_⟩) (by assumption) ?_
            rotate_left 1
            · (intro w hSw; (try dsimp only at hSw); go_simp; try with_reducible rfl)
            try simp (maxSteps := 10000000) only [List.getElem_toArray, List.getElem_cons_succ, List.getElem_cons_zero, Act.put, List.setIfInBounds_toArray, List.set_cons_zero, List.set_cons_succ]
            refine wpAnyH_take (i := 6) (oi := _) (v := ?_) rfl (by kernel_rfl) (by kernel_rfl) (by kernel_rfl) (fun _ _ _ h => h) (Or.inl ⟨by rfl, ?_⟩) (by assumption) ?_
            rotate_left 1
            · (intro w hSw; (try dsimp only at hSw); go_simp; try with_reducible rfl)
            try simp (maxSteps := 10000000) only [List.getElem_toArray, List.getElem_cons_succ, List.getElem_cons_zero, Act.put, List.setIfInBounds_toArray, List.set_cons_zero, List.set_cons_succ]
            refine wpAnyH_take (i := 7) (oi := _) (v := ?_) rfl (by kernel_rfl) (by kernel_rfl) (by kernel_rfl) (fun _ _ _ h => h) (Or.inl ⟨by rfl, ?_⟩) (by assumption) ?_
            rotate_left 1
            · (intro w hSw; (try dsimp only at hSw); go_simp; try with_reducible rfl)
            try simp (maxSteps := 10000000) only [List.getElem_toArray, List.getElem_cons_succ, List.getElem_cons_zero, Act.put, List.setIfInBounds_toArray, List.set_cons_zero, List.set_cons_succ]
            refine wpAnyH_take (i := 8) (oi := _) (v := ?_) rfl (by kernel_rfl) (by kernel_rfl) (by kernel_rfl) (fun _ _ _ h => h) (Or.inl ⟨by rfl, ?_⟩) (by assumption) ?_
            rotate_left 1
            · (intro w hSw; (try dsimp only at hSw); go_simp; try with_reducible rfl)
            try simp (maxSteps := 10000000) only [List.getElem_toArray, List.getElem_cons_succ, List.getElem_cons_zero, Act.put, List.setIfInBounds_toArray, List.set_cons_zero, List.set_cons_succ]
            refine wpAnyH_take (i := 9) (oi := _) (v := ?_) rfl (by kernel_rfl) (by kernel_rfl) (by kernel_rfl) (fun _ _ _ h => h) (Or.inl ⟨by rfl, ?_⟩) (by assumption) ?_
            rotate_left 1
            · (intro w hSw; (try dsimp only at hSw); go_simp; try with_reducible rfl)
            try simp (maxSteps := 10000000) only [List.getElem_toArray, List.getElem_cons_succ, List.getElem_cons_zero, Act.put, List.setIfInBounds_toArray, List.set_cons_zero, List.set_cons_succ]
            refine wpAnyH_ready (rs := [10]) (by kernel_rfl) (by simp) ?_
            refine AllReadyH.cons rfl (fun K hK => ?_) AllReadyH.nil
            go_simp
            skip
            try go_simp
            refine hK.out _ _ ?_ (fun hHeld => ?_)
            · first | assumption | go_keep | (refine ⟨?_, ?_⟩ <;> (rw [World.cell?_setCell_other _ _ _ _ (by simp; try omega), World.cell?_setCell_other _ _ _ _ (by simp; try omega)]; assumption))
            clear hK K
            try simp (maxSteps := 10000000) only [List.getElem_toArray, List.getElem_cons_succ, List.getElem_cons_zero, Act.put, List.setIfInBounds_toArray, List.set_cons_zero, List.set_cons_succ]
            refine wpAnyH_take (i := 11) (oi := _) (v := ?_) rfl (by kernel_rfl) (by kernel_rfl) (by kernel_rfl) (fun _ _ _ h => h) (Or.inl ⟨by rfl, ?_⟩) (by assumption) ?_
            rotate_left 1
            · (intro w hSw; (try dsimp only at hSw); go_simp; try with_reducible rfl)
            try simp (maxSteps := 10000000) only [List.getElem_toArray, List.getElem_cons_succ, List.getElem_cons_zero, Act.put, List.setIfInBounds_toArray, List.set_cons_zero, List.set_cons_succ]
            refine wpAnyH_ready (rs := [12]) (by kernel_rfl) (by simp) ?_
            refine AllReadyH.cons rfl (fun K hK => ?_) AllReadyH.nil
            go_simp
            skip
            try go_simp
            refine hK.out _ _ ?_ (fun hHeld => ?_)
            · first | assumption | go_keep | (refine ⟨?_, ?_⟩ <;> (rw [World.cell?_setCell_other _ _ _ _ (by simp; try omega), World.cell?_setCell_other _ _ _ _ (by simp; try omega)]; assumption))
            clear hK K
            try simp (maxSteps := 10000000) only [List.getElem_toArray, List.getElem_cons_succ, List.getElem_cons_zero, Act.put, List.setIfInBounds_toArray, List.set_cons_zero, List.set_cons_succ]
            refine wpAnyH_done (by kernel_rfl) ?_ _
            go_wp2
            refine bodyPost_ret (v := .agg #[.bool false, .slice none 0 0]) (by simp [results, Tryz.results36, go_sem, f5, f6]) rfl ⟨_, rfl, Fr.nil _ _, ?_⟩
            exact ((hB0.setCell (p := ⟨w.heap.size + 1, 0, none⟩) (by simp) _).setCell (p := ⟨w.heap.size + 1, 1, none⟩) (by simp) _).drew
          · go_wp2
            refine wp_region_held_drew (S := fun w' => w'.cell? ⟨w.heap.size, 0, none⟩ = some (.bool true) ∧ w'.cell? ⟨w.heap.size, 1, none⟩ = some (.slice none l.length cap)) (by kernel_rfl) (by go_keep) (fun hHeld => ?_)
            refine wpAnyH_take (i := 0) (oi := _) (v := ?_) rfl (by kernel_rfl) (by kernel_rfl) (by kernel_rfl) (fun _ _ _ h => h) (Or.inl ⟨by rfl, ?_⟩) (by assumption) ?_
            rotate_left 1
            · (intro w hSw; (try dsimp only at hSw); go_simp; try with_reducible rfl)
            try simp (maxSteps := 10000000) only [List.getElem_toArray, List.getElem_cons_succ, List.getElem_cons_zero, Act.put, List.setIfInBounds_toArray, List.set_cons_zero, List.set_cons_succ]
            refine wpAnyH_take (i := 1) (oi := _) (v := ?_) rfl (by kernel_rfl) (by kernel_rfl) (by kernel_rfl) (fun _ _ _ h => h) (Or.inl ⟨by rfl, ?_⟩) (by assumption) ?_
            rotate_left 1
            · (intro w hSw; (try dsimp only at hSw); go_simp; try with_reducible rfl)
            try simp (maxSteps := 10000000) only [List.getElem_toArray, List.getElem_cons_succ, List.getElem_cons_zero, Act.put, List.setIfInBounds_toArray, List.set_cons_zero, List.set_cons_succ]
            refine wpAnyH_take (i := 2) (oi := _) (v := ?_) rfl (by kernel_rfl) (by kernel_rfl) (by kernel_rfl) (fun _ _ _ h => h) (Or.inl ⟨by rfl, ?_⟩) (by assumption) ?_
            rotate_left 1
            · (intro w hSw; (try dsimp only at hSw); go_simp; try with_reducible rfl)
            try simp (maxSteps := 10000000) only [List.getElem_toArray, List.getElem_cons_succ, List.getElem_cons_zero, Act.put, List.setIfInBounds_toArray, List.set_cons_zero, List.set_cons_succ]
            refine wpAnyH_take (i := 3) (oi := _) (v := ?_) rfl (by kernel_rfl) (by kernel_rfl) (by kernel_rfl) (fun _ _ _ h => h) (Or.inl ⟨by rfl, ?_⟩) (by assumption) ?_
            rotate_left 1
            · (intro w hSw; (try dsimp only at hSw); go_simp; try with_reducible rfl)
            try simp (maxSteps := 10000000) only [List.getElem_toArray, List.getElem_cons_succ, List.getElem_cons_zero, Act.put, List.setIfInBounds_toArray, List.set_cons_zero, List.set_cons_succ]
            refine wpAnyH_take (i := 4) (oi := _) (v := ?_) rfl (by kernel_rfl) (by kernel_rfl) (by kernel_rfl) (fun _ _ _ h => h) (Or.inl ⟨by rfl, ?_⟩) (by assumption) ?_
            rotate_left 1
            · (intro w hSw; (try dsimp only at hSw); go_simp; try with_reducible rfl)
            try simp (maxSteps := 10000000) only [List.getElem_toArray, List.getElem_cons_succ, List.getElem_cons_zero, Act.put, List.setIfInBounds_toArray, List.set_cons_zero, List.set_cons_succ]
            refine wpAnyH_take (i := 5) (oi := _) (v := ?_) rfl (by kernel_rfl) (by kernel_rfl) (by kernel_rfl) (fun _ _ _ h => h) (Or.inl ⟨by rfl, ?_⟩) (by assumption) ?_
            rotate_left 1
            · (intro w hSw; (try dsimp only at hSw); go_simp; try with_reducible rfl)
            try simp (maxSteps := 10000000) only [List.getElem_toArray, List.getElem_cons_succ, List.getElem_cons_zero, Act.put, List.setIfInBounds_toArray, List.set_cons_zero, List.set_cons_succ]
            refine wpAnyH_take (i := 6) (oi := _) (v := ?_) rfl (by kernel_rfl) (by kernel_rfl) (by kernel_rfl) (fun _ _ _ h => h) (Or.inl ⟨by rfl, ?_⟩) (by assumption) ?_
            rotate_left 1
            · (intro w hSw; (try dsimp only at hSw); go_simp; try with_reducible rfl)
            try simp (maxSteps := 10000000) only [List.getElem_toArray, List.getElem_cons_succ, List.getElem_cons_zero, Act.put, List.setIfInBounds_toArray, List.set_cons_zero, List.set_cons_succ]
            refine wpAnyH_take (i := 7) (oi := _) (v := ?_) rfl (by kernel_rfl) (by kernel_rfl) (by kernel_rfl) (fun _ _ _ h => h) (Or.inl ⟨by rfl, ?_⟩) (by assumption) ?_
            rotate_left 1
            · (intro w hSw; (try dsimp only at hSw); go_simp; try with_reducible rfl)
            try simp (maxSteps := 10000000) only [List.getElem_toArray, List.getElem_cons_succ, List.getElem_cons_zero, Act.put, List.setIfInBounds_toArray, List.set_cons_zero, List.set_cons_succ]
            refine wpAnyH_take (i := 8) (oi := _) (v := ?_) rfl (by kernel_rfl) (by kernel_rfl) (by kernel_rfl) (fun _ _ _ h => h) (Or.inl ⟨by rfl, ?_⟩) (by assumption) ?_
            rotate_left 1
            · (intro w hSw; (try dsimp only at hSw); go_simp; try with_reducible rfl)
            try simp (maxSteps := 10000000) only [List.getElem_toArray, List.getElem_cons_succ, List.getElem_cons_zero, Act.put, List.setIfInBounds_toArray, List.set_cons_zero, List.set_cons_succ]
            refine wpAnyH_take (i := 9) (oi := _) (v := ?_) rfl (by kernel_rfl) (by kernel_rfl) (by kernel_rfl) (fun _ _ _ h => h) (Or.inl ⟨by rfl, ?_⟩) (by assumption) ?_
            rotate_left 1
            · (intro w hSw; (try dsimp only at hSw); go_simp; try with_reducible rfl)
            try simp (maxSteps := 10000000) only [List.getElem_toArray, List.getElem_cons_succ, List.getElem_cons_zero, Act.put, List.setIfInBounds_toArray, List.set_cons_zero, List.set_cons_succ]
            refine wpAnyH_ready (rs := [10]) (by kernel_rfl) (by simp) ?_
            refine AllReadyH.cons rfl (fun K hK => ?_) AllReadyH.nil
            go_simp
            skip
            try go_simp
            refine hK.out _ _ ?_ (fun hHeld => ?_)
            · first | assumption | go_keep | (refine ⟨?_, ?_⟩ <;> (rw [World.cell?_setCell_other _ _ _ _ (by simp; try omega), World.cell?_setCell_other _ _ _ _ (by simp; try omega)]; assumption))
            clear hK K
            try simp (maxSteps := 10000000) only [List.getElem_toArray, List.getElem_cons_succ, List.getElem_cons_zero, Act.put, List.setIfInBounds_toArray, List.set_cons_zero, List.set_cons_succ]
            refine wpAnyH_take (i := 11) (oi := _) (v := ?_) rfl (by kernel_rfl) (by kernel_rfl) (by kernel_rfl) (fun _ _ _ h => h) (Or.inl ⟨by rfl, ?_⟩) (by assumption) ?_
            rotate_left 1
            · (intro w hSw; (try dsimp only at hSw); go_simp; try with_reducible rfl)
            try simp (maxSteps := 10000000) only [List.getElem_toArray, List.getElem_cons_succ, List.getElem_cons_zero, Act.put, List.setIfInBounds_toArray, List.set_cons_zero, List.set_cons_succ]
            refine wpAnyH_ready (rs := [12]) (by kernel_rfl) (by simp) ?_
            refine AllReadyH.cons rfl (fun K hK => ?_) AllReadyH.nil
            go_simp
            skip
            try go_simp
            refine hK.out _ _ ?_ (fun hHeld => ?_)
            · first | assumption | go_keep | (refine ⟨?_, ?_⟩ <;> (rw [World.cell?_setCell_other _ _ _ _ (by simp; try omega), World.cell?_setCell_other _ _ _ _ (by simp; try omega)]; assumption))
            clear hK K
            try simp (maxSteps := 10000000) only [List.getElem_toArray, List.getElem_cons_succ, List.getElem_cons_zero, Act.put, List.setIfInBounds_toArray, List.set_cons_zero, List.set_cons_succ]
            refine wpAnyH_done (by kernel_rfl) ?_ _
            go_wp2
            refine bodyPost_ret (v := .agg #[.bool false, .slice none 0 0]) (by simp [results, Tryz.results36, go_sem, f5, f6]) rfl ⟨_, rfl, Fr.nil _ _, ?_⟩
            exact ((hB0.setCell (p := ⟨w.heap.size + 1, 0, none⟩) (by simp) _).setCell (p := ⟨w.heap.size + 1, 1, none⟩) (by simp) _).drew
        | some ad =>
          cases neg
          · go_wp2
            refine wp_region_held_drew (S := fun w' => w'.cell? ⟨w.heap.size, 0, none⟩ = some (.bool false) ∧ w'.cell? ⟨w.heap.size, 1, none⟩ = some (.slice (some ad) l.length cap)) (by kernel_rfl) (by go_keep) (fun hHeld => ?_)
            refine wpAnyH_take (i := 0) (oi := _) (v := ?_) rfl (by kernel_rfl) (by kernel_rfl) (by kernel_rfl) (fun _ _ _ h => h) (Or.inl ⟨by rfl, ?_⟩) (by assumption) ?_
            rotate_left 1
            · (intro w hSw; (try dsimp only at hSw); go_simp; try with_reducible rfl)
            try simp (maxSteps := 10000000) only [List.getElem_toArray, List.getElem_cons_succ, List.getElem_cons_zero, Act.put, List.setIfInBounds_toArray, List.set_cons_zero, List.set_cons_succ]
            refine wpAnyH_take (i := 1) (oi := _) (v := ?_) rfl (by kernel_rfl) (by kernel_rfl) (by kernel_rfl) (fun _ _ _ h => h) (Or.inl ⟨by rfl, ?_⟩) (by assumption) ?_
            rotate_left 1
            · (intro w hSw; (try dsimp only at hSw); go_simp; try with_reducible rfl)
            try simp (maxSteps := 10000000) only [List.getElem_toArray, List.getElem_cons_succ, List.getElem_cons_zero, Act.put, List.setIfInBounds_toArray, List.set_cons_zero, List.set_cons_succ]
            refine wpAnyH_take (i := 2) (oi := _) (v := ?_) rfl (by kernel_rfl) (by kernel_rfl) (by kernel_rfl) (fun _ _ _ h => h) (Or.inl ⟨by rfl, ?_⟩) (by assumption) ?_
            rotate_left 1
            · (intro w hSw; (try dsimp only at hSw); go_simp; try with_reducible rfl)
            try simp (maxSteps := 10000000) only [List.getElem_toArray, List.getElem_cons_succ, List.getElem_cons_zero, Act.put, List.setIfInBounds_toArray, List.set_cons_zero, List.set_cons_succ]
            refine wpAnyH_take (i := 3) (oi := _) (v := undef) rfl (by kernel_rfl) (by kernel_rfl) (by kernel_rfl) (fun _ _ _ h => h) (Or.inr ⟨by rfl, rfl⟩) (by assumption) ?_
            try simp (maxSteps := 10000000) only [List.getElem_toArray, List.getElem_cons_succ, List.getElem_cons_zero, Act.put, List.setIfInBounds_toArray, List.set_cons_zero, List.set_cons_succ]
            refine wpAnyH_take (i := 4) (oi := _) (v := undef) rfl (by kernel_rfl) (by kernel_rfl) (by kernel_rfl) (fun _ _ _ h => h) (Or.inr ⟨by rfl, rfl⟩) (by assumption) ?_
            try simp (maxSteps := 10000000) only [List.getElem_toArray, List.getElem_cons_succ, List.getElem_cons_zero, Act.put, List.setIfInBounds_toArray, List.set_cons_zero, List.set_cons_succ]
            refine wpAnyH_take (i := 5) (oi := _) (v := ?_) rfl (by kernel_rfl) (by kernel_rfl) (by kernel_rfl) (fun _ _ _ h => h) (Or.inl ⟨by rfl, ?_⟩) (by assumption) ?_
            rotate_left 1
            · (intro w hSw; (try dsimp only at hSw); go_simp; try with_reducible rfl)
            try simp (maxSteps := 10000000) only [List.getElem_toArray, List.getElem_cons_succ, List.getElem_cons_zero, Act.put, List.setIfInBounds_toArray, List.set_cons_zero, List.set_cons_succ]
            refine wpAnyH_take (i := 6) (oi := _) (v := ?_) rfl (by kernel_rfl) (by kernel_rfl) (by kernel_rfl) (fun _ _ _ h => h) (Or.inl ⟨by rfl, ?_⟩) (by assumption) ?_
            rotate_left 1
            · (intro w hSw; (try dsimp only at hSw); go_simp; try with_reducible rfl)
            try simp (maxSteps := 10000000) only [List.getElem_toArray, List.getElem_cons_succ, List.getElem_cons_zero, Act.put, List.setIfInBounds_toArray, List.set_cons_zero, List.set_cons_succ]
            refine wpAnyH_take (i := 7) (oi := _) (v := ?_) rfl (by kernel_rfl) (by kernel_rfl) (by kernel_rfl) (fun _ _ _ h => h) (Or.inl ⟨by rfl, ?_⟩) (by assumption) ?_
            rotate_left 1
            · (intro w hSw; (try dsimp only at hSw); go_simp; try with_reducible rfl)
            try simp (maxSteps := 10000000) only [List.getElem_toArray, List.getElem_cons_succ, List.getElem_cons_zero, Act.put, List.setIfInBounds_toArray, List.set_cons_zero, List.set_cons_succ]
            refine wpAnyH_take (i := 8) (oi := _) (v := ?_) rfl (by kernel_rfl) (by kernel_rfl) (by kernel_rfl) (fun _ _ _ h => h) (Or.inl ⟨by rfl, ?_⟩) (by assumption) ?_
            rotate_left 1
            · (intro w hSw; (try dsimp only at hSw); go_simp; try with_reducible rfl)
            try simp (maxSteps := 10000000) only [List.getElem_toArray, List.getElem_cons_succ, List.getElem_cons_zero, Act.put, List.setIfInBounds_toArray, List.set_cons_zero, List.set_cons_succ]
            refine wpAnyH_take (i := 9) (oi := _) (v := ?_) rfl (by kernel_rfl) (by kernel_rfl) (by kernel_rfl) (fun _ _ _ h => h) (Or.inl ⟨by rfl, ?_⟩) (by assumption) ?_
            rotate_left 1
            · (intro w hSw; (try dsimp only at hSw); go_simp; try with_reducible rfl)
            try simp (maxSteps := 10000000) only [List.getElem_toArray, List.getElem_cons_succ, List.getElem_cons_zero, Act.put, List.setIfInBounds_toArray, List.set_cons_zero, List.set_cons_succ]
            refine wpAnyH_ready (rs := [10]) (by kernel_rfl) (by simp) ?_
            refine AllReadyH.cons rfl (fun K hK => ?_) AllReadyH.nil
            go_simp
            skip
            try go_simp
            refine hK.out _ _ ?_ (fun hHeld => ?_)
            · first | assumption | go_keep | (refine ⟨?_, ?_⟩ <;> (rw [World.cell?_setCell_other _ _ _ _ (by simp; try omega), World.cell?_setCell_other _ _ _ _ (by simp; try omega)]; assumption))
            clear hK K
            try simp (maxSteps := 10000000) only [List.getElem_toArray, List.getElem_cons_succ, List.getElem_cons_zero, Act.put, List.setIfInBounds_toArray, List.set_cons_zero, List.set_cons_succ]
            refine wpAnyH_take (i := 11) (oi := _) (v := ?_) rfl (by kernel_rfl) (by kernel_rfl) (by kernel_rfl) (fun _ _ _ h => h) (Or.inl ⟨by rfl, ?_⟩) (by assumption) ?_
            rotate_left 1
            · (intro w hSw; (try dsimp only at hSw); go_simp; try with_reducible rfl)
            try simp (maxSteps := 10000000) only [List.getElem_toArray, List.getElem_cons_succ, List.getElem_cons_zero, Act.put, List.setIfInBounds_toArray, List.set_cons_zero, List.set_cons_succ]
            refine wpAnyH_ready (rs := [12]) (by kernel_rfl) (by simp) ?_
            refine AllReadyH.cons rfl (fun K hK => ?_) AllReadyH.nil
            go_simp
            skip
            try go_simp
            refine hK.out _ _ ?_ (fun hHeld => ?_)
            · first | assumption | go_keep | (refine ⟨?_, ?_⟩ <;> (rw [World.cell?_setCell_other _ _ _ _ (by simp; try omega), World.cell?_setCell_other _ _ _ _ (by simp; try omega)]; assumption))
            clear hK K
            try simp (maxSteps := 10000000) only [List.getElem_toArray, List.getElem_cons_succ, List.getElem_cons_zero, Act.put, List.setIfInBounds_toArray, List.set_cons_zero, List.set_cons_succ]
            refine wpAnyH_done (by kernel_rfl) ?_ _
            go_wp2
            refine bodyPost_ret (v := .agg #[.bool false, .slice none 0 0]) (by simp [results, Tryz.results36, go_sem, f5, f6]) rfl ⟨_, rfl, Fr.nil _ _, ?_⟩
            exact ((hB0.setCell (p := ⟨w.heap.size + 1, 0, none⟩) (by simp) _).setCell (p := ⟨w.heap.size + 1, 1, none⟩) (by simp) _).drew
          · go_wp2
            refine wp_region_held_drew (S := fun w' => w'.cell? ⟨w.heap.size, 0, none⟩ = some (.bool true) ∧ w'.cell? ⟨w.heap.size, 1, none⟩ = some (.slice (some ad) l.length cap)) (by kernel_rfl) (by go_keep) (fun hHeld => ?_)
            refine wpAnyH_take (i := 0) (oi := _) (v := ?_) rfl (by kernel_rfl) (by kernel_rfl) (by kernel_rfl) (fun _ _ _ h => h) (Or.inl ⟨by rfl, ?_⟩) (by assumption) ?_
            rotate_left 1
            · (intro w hSw; (try dsimp only at hSw); go_simp; try with_reducible rfl)
            try simp (maxSteps := 10000000) only [List.getElem_toArray, List.getElem_cons_succ, List.getElem_cons_zero, Act.put, List.setIfInBounds_toArray, List.set_cons_zero, List.set_cons_succ]
            refine wpAnyH_take (i := 1) (oi := _) (v := ?_) rfl (by kernel_rfl) (by kernel_rfl) (by kernel_rfl) (fun _ _ _ h => h) (Or.inl ⟨by rfl, ?_⟩) (by assumption) ?_
            rotate_left 1
            · (intro w hSw; (try dsimp only at hSw); go_simp; try with_reducible rfl)
            try simp (maxSteps := 10000000) only [List.getElem_toArray, List.getElem_cons_succ, List.getElem_cons_zero, Act.put, List.setIfInBounds_toArray, List.set_cons_zero, List.set_cons_succ]
            refine wpAnyH_take (i := 2) (oi := _) (v := ?_) rfl (by kernel_rfl) (by kernel_rfl) (by kernel_rfl) (fun _ _ _ h => h) (Or.inl ⟨by rfl, ?_⟩) (by assumption) ?_
            rotate_left 1
            · (intro w hSw; (try dsimp only at hSw); go_simp; try with_reducible rfl)
            try simp (maxSteps := 10000000) only [List.getElem_toArray, List.getElem_cons_succ, List.getElem_cons_zero, Act.put, List.setIfInBounds_toArray, List.set_cons_zero, List.set_cons_succ]
            refine wpAnyH_take (i := 3) (oi := _) (v := ?_) rfl (by kernel_rfl) (by kernel_rfl) (by kernel_rfl) (fun _ _ _ h => h) (Or.inl ⟨by rfl, ?_⟩) (by assumption) ?_
            rotate_left 1
            · (intro w hSw; (try dsimp only at hSw); go_simp; try with_reducible rfl)
            try simp (maxSteps := 10000000) only [List.getElem_toArray, List.getElem_cons_succ, List.getElem_cons_zero, Act.put, List.setIfInBounds_toArray, List.set_cons_zero, List.set_cons_succ]
            refine wpAnyH_take (i := 4) (oi := _) (v := ?_) rfl (by kernel_rfl) (by kernel_rfl) (by kernel_rfl) (fun _ _ _ h => h) (Or.inl ⟨by rfl, ?_⟩) (by assumption) ?_
            rotate_left 1
            · (intro w hSw; (try dsimp only at hSw); go_simp; try with_reducible rfl)
            try simp (maxSteps := 10000000) only [List.getElem_toArray, List.getElem_cons_succ, List.getElem_cons_zero, Act.put, List.setIfInBounds_toArray, List.set_cons_zero, List.set_cons_succ]
            refine wpAnyH_take (i := 5) (oi := _) (v := ?_) rfl (by kernel_rfl) (by kernel_rfl) (by kernel_rfl) (fun _ _ _ h => h) (Or.inl ⟨by rfl, ?_⟩) (by assumption) ?_
            rotate_left 1
            · (intro w hSw; (try dsimp only at hSw); go_simp; try with_reducible rfl)
            try simp (maxSteps := 10000000) only [List.getElem_toArray, List.getElem_cons_succ, List.getElem_cons_zero, Act.put, List.setIfInBounds_toArray, List.set_cons_zero, List.set_cons_succ]
            refine wpAnyH_take (i := 6) (oi := _) (v := ?_) rfl (by kernel_rfl) (by kernel_rfl) (by kernel_rfl) (fun _ _ _ h => h) (Or.inl ⟨by rfl, ?_⟩) (by assumption) ?_
            rotate_left 1
            · (intro w hSw; (try dsimp only at hSw); go_simp; try with_reducible rfl)
            try simp (maxSteps := 10000000) only [List.getElem_toArray, List.getElem_cons_succ, List.getElem_cons_zero, Act.put, List.setIfInBounds_toArray, List.set_cons_zero, List.set_cons_succ]
            refine wpAnyH_take (i := 7) (oi := _) (v := ?_) rfl (by kernel_rfl) (by kernel_rfl) (by kernel_rfl) (fun _ _ _ h => h) (Or.inl ⟨by rfl, ?_⟩) (by assumption) ?_
            rotate_left 1
            · (intro w hSw; (try dsimp only at hSw); go_simp; try with_reducible rfl)
            try simp (maxSteps := 10000000) only [List.getElem_toArray, List.getElem_cons_succ, List.getElem_cons_zero, Act.put, List.setIfInBounds_toArray, List.set_cons_zero, List.set_cons_succ]
            refine wpAnyH_take (i := 8) (oi := _) (v := ?_) rfl (by kernel_rfl) (by kernel_rfl) (by kernel_rfl) (fun _ _ _ h => h) (Or.inl ⟨by rfl, ?_⟩) (by assumption) ?_
            rotate_left 1
            · (intro w hSw; (try dsimp only at hSw); go_simp; try with_reducible rfl)
            try simp (maxSteps := 10000000) only [List.getElem_toArray, List.getElem_cons_succ, List.getElem_cons_zero, Act.put, List.setIfInBounds_toArray, List.set_cons_zero, List.set_cons_succ]
            refine wpAnyH_take (i := 9) (oi := _) (v := ?_) rfl (by kernel_rfl) (by kernel_rfl) (by kernel_rfl) (fun _ _ _ h => h) (Or.inl ⟨by rfl, ?_⟩) (by assumption) ?_
            rotate_left 1
            · (intro w hSw; (try dsimp only at hSw); go_simp; try with_reducible rfl)
            try simp (maxSteps := 10000000) only [List.getElem_toArray, List.getElem_cons_succ, List.getElem_cons_zero, Act.put, List.setIfInBounds_toArray, List.set_cons_zero, List.set_cons_succ]
            refine wpAnyH_ready (rs := [10]) (by kernel_rfl) (by simp) ?_
            refine AllReadyH.cons rfl (fun K hK => ?_) AllReadyH.nil
            go_simp
            skip
            try go_simp
            refine hK.out _ _ ?_ (fun hHeld => ?_)
            · first | assumption | go_keep | (refine ⟨?_, ?_⟩ <;> (rw [World.cell?_setCell_other _ _ _ _ (by simp; try omega), World.cell?_setCell_other _ _ _ _ (by simp; try omega)]; assumption))
            clear hK K
            try simp (maxSteps := 10000000) only [List.getElem_toArray, List.getElem_cons_succ, List.getElem_cons_zero, Act.put, List.setIfInBounds_toArray, List.set_cons_zero, List.set_cons_succ]
            refine wpAnyH_take (i := 11) (oi := _) (v := ?_) rfl (by kernel_rfl) (by kernel_rfl) (by kernel_rfl) (fun _ _ _ h => h) (Or.inl ⟨by rfl, ?_⟩) (by assumption) ?_
            rotate_left 1
            · (intro w hSw; (try dsimp only at hSw); go_simp; try with_reducible rfl)
            try simp (maxSteps := 10000000) only [List.getElem_toArray, List.getElem_cons_succ, List.getElem_cons_zero, Act.put, List.setIfInBounds_toArray, List.set_cons_zero, List.set_cons_succ]
            refine wpAnyH_ready (rs := [12]) (by kernel_rfl) (by simp) ?_
            refine AllReadyH.cons rfl (fun K hK => ?_) AllReadyH.nil
            go_simp
            skip
            try go_simp
            refine hK.out _ _ ?_ (fun hHeld => ?_)
            · first | assumption | go_keep | (refine ⟨?_, ?_⟩ <;> (rw [World.cell?_setCell_other _ _ _ _ (by simp; try omega), World.cell?_setCell_other _ _ _ _ (by simp; try omega)]; assumption))
            clear hK K
            try simp (maxSteps := 10000000) only [List.getElem_toArray, List.getElem_cons_succ, List.getElem_cons_zero, Act.put, List.setIfInBounds_toArray, List.set_cons_zero, List.set_cons_succ]
            refine wpAnyH_done (by kernel_rfl) ?_ _
            go_wp2
            refine bodyPost_ret (v := .agg #[.bool false, .slice none 0 0]) (by simp [results, Tryz.results36, go_sem, f5, f6]) rfl ⟨_, rfl, Fr.nil _ _, ?_⟩
            exact ((hB0.setCell (p := ⟨w.heap.size + 1, 0, none⟩) (by simp) _).setCell (p := ⟨w.heap.size + 1, 1, none⟩) (by simp) _).drew
      · obtain ⟨x, hx, hx0⟩ := hgo.resolve_left h0
        obtain ⟨a, rfl, cx⟩ := hLW (k - 1) x hx
        obtain ⟨m, rfl⟩ : ∃ m, k = m + 1 := ⟨k - 1, by omega⟩
        have hlk : (l.take (m + 1)).length = m + 1 := by rw [List.length_take]; omega
        have e1 : (((m + 1 : Nat) : Int) - 1) = (m : Int) := by omega
        have e2 : ((m : Int) + 1 - 1) = (m : Int) := by omega
        have hml : (m : Int) < (l.length : Int) := by omega
        have sl1 : (0 : Int) ≤ (m : Int) + 1 := by omega
        have sl2 : (m : Int) + 1 ≤ (cap : Int) := by omega
        have hpos : (0 : Int) < ((m + 1 : Nat) : Int) := by omega
        rw [Nat.add_sub_cancel] at cx
        have hxz : ((x : Int) == 0) = false := by simp only [beq_eq_false_iff_ne, ne_eq]; omega
        have hGe : G = l.take (m + 1) := by rw [← hG'.out, hgl.out]
        have hbe : bR = neg := by rw [← hbR'.out, hnz.out]; simp
        subst hbe
        have hGe' := hid hGe
        clear hGe
        have hLt := hid (hLW.take (m + 1))
        obtain ⟨i0, hi, hy0, hy1, hy2⟩ := info_parts info32u
        clear hgl hnz hgo hH hx h0 hG' hbR'
        cases bR
        · go_wp2
          refine wp_region_held_drew (S := fun w' => w'.cell? ⟨w.heap.size, 0, none⟩ = some (.bool false) ∧ w'.cell? ⟨w.heap.size, 1, none⟩ = some (.slice (some a) l.length cap)) (by kernel_rfl) (by go_keep) (fun hHeld => ?_)
          refine wpAnyH_take (i := 0) (oi := _) (v := ?_) rfl (by kernel_rfl) (by kernel_rfl) (by kernel_rfl) (fun _ _ _ h => h) (Or.inl ⟨by rfl, ?_⟩) (by assumption) ?_
          rotate_left 1
          · (intro w hSw; (try dsimp only at hSw); go_simp; try with_reducible rfl)
          try simp (maxSteps := 10000000) only [List.getElem_toArray, List.getElem_cons_succ, List.getElem_cons_zero, Act.put, List.setIfInBounds_toArray, List.set_cons_zero, List.set_cons_succ]
          refine wpAnyH_take (i := 1) (oi := _) (v := ?_) rfl (by kernel_rfl) (by kernel_rfl) (by kernel_rfl) (fun _ _ _ h => h) (Or.inl ⟨by rfl, ?_⟩) (by assumption) ?_
          rotate_left 1
          · (intro w hSw; (try dsimp only at hSw); go_simp; try with_reducible rfl)
          try simp (maxSteps := 10000000) only [List.getElem_toArray, List.getElem_cons_succ, List.getElem_cons_zero, Act.put, List.setIfInBounds_toArray, List.set_cons_zero, List.set_cons_succ]
          refine wpAnyH_take (i := 2) (oi := _) (v := ?_) rfl (by kernel_rfl) (by kernel_rfl) (by kernel_rfl) (fun _ _ _ h => h) (Or.inl ⟨by rfl, ?_⟩) (by assumption) ?_
          rotate_left 1
          · (intro w hSw; (try dsimp only at hSw); go_simp; try with_reducible rfl)
          try simp (maxSteps := 10000000) only [List.getElem_toArray, List.getElem_cons_succ, List.getElem_cons_zero, Act.put, List.setIfInBounds_toArray, List.set_cons_zero, List.set_cons_succ]
          refine wpAnyH_take (i := 3) (oi := _) (v := undef) rfl (by kernel_rfl) (by kernel_rfl) (by kernel_rfl) (fun _ _ _ h => h) (Or.inr ⟨by rfl, rfl⟩) (by assumption) ?_
          try simp (maxSteps := 10000000) only [List.getElem_toArray, List.getElem_cons_succ, List.getElem_cons_zero, Act.put, List.setIfInBounds_toArray, List.set_cons_zero, List.set_cons_succ]
          refine wpAnyH_take (i := 4) (oi := _) (v := undef) rfl (by kernel_rfl) (by kernel_rfl) (by kernel_rfl) (fun _ _ _ h => h) (Or.inr ⟨by rfl, rfl⟩) (by assumption) ?_
          try simp (maxSteps := 10000000) only [List.getElem_toArray, List.getElem_cons_succ, List.getElem_cons_zero, Act.put, List.setIfInBounds_toArray, List.set_cons_zero, List.set_cons_succ]
          refine wpAnyH_take (i := 5) (oi := _) (v := ?_) rfl (by kernel_rfl) (by kernel_rfl) (by kernel_rfl) (fun _ _ _ h => h) (Or.inl ⟨by rfl, ?_⟩) (by assumption) ?_
          rotate_left 1
          · (intro w hSw; (try dsimp only at hSw); go_simp; try with_reducible rfl)
          try simp (maxSteps := 10000000) only [List.getElem_toArray, List.getElem_cons_succ, List.getElem_cons_zero, Act.put, List.setIfInBounds_toArray, List.set_cons_zero, List.set_cons_succ]
          refine wpAnyH_take (i := 6) (oi := _) (v := ?_) rfl (by kernel_rfl) (by kernel_rfl) (by kernel_rfl) (fun _ _ _ h => h) (Or.inl ⟨by rfl, ?_⟩) (by assumption) ?_
          rotate_left 1
          · (intro w hSw; (try dsimp only at hSw); go_simp; try with_reducible rfl)
          try simp (maxSteps := 10000000) only [List.getElem_toArray, List.getElem_cons_succ, List.getElem_cons_zero, Act.put, List.setIfInBounds_toArray, List.set_cons_zero, List.set_cons_succ]
          refine wpAnyH_take (i := 7) (oi := _) (v := ?_) rfl (by kernel_rfl) (by kernel_rfl) (by kernel_rfl) (fun _ _ _ h => h) (Or.inl ⟨by rfl, ?_⟩) (by assumption) ?_
          rotate_left 1
          · (intro w hSw; (try dsimp only at hSw); go_simp; try with_reducible rfl)
          try simp (maxSteps := 10000000) only [List.getElem_toArray, List.getElem_cons_succ, List.getElem_cons_zero, Act.put, List.setIfInBounds_toArray, List.set_cons_zero, List.set_cons_succ]
          refine wpAnyH_take (i := 8) (oi := _) (v := ?_) rfl (by kernel_rfl) (by kernel_rfl) (by kernel_rfl) (fun _ _ _ h => h) (Or.inl ⟨by rfl, ?_⟩) (by assumption) ?_
          rotate_left 1
          · (intro w hSw; (try dsimp only at hSw); go_simp; try with_reducible rfl)
          try simp (maxSteps := 10000000) only [List.getElem_toArray, List.getElem_cons_succ, List.getElem_cons_zero, Act.put, List.setIfInBounds_toArray, List.set_cons_zero, List.set_cons_succ]
          refine wpAnyH_take (i := 9) (oi := _) (v := ?_) rfl (by kernel_rfl) (by kernel_rfl) (by kernel_rfl) (fun _ _ _ h => h) (Or.inl ⟨by rfl, ?_⟩) (by assumption) ?_
          rotate_left 1
          · (intro w hSw; (try dsimp only at hSw); go_simp; try with_reducible rfl)
          try simp (maxSteps := 10000000) only [List.getElem_toArray, List.getElem_cons_succ, List.getElem_cons_zero, Act.put, List.setIfInBounds_toArray, List.set_cons_zero, List.set_cons_succ]
          refine wpAnyH_ready (rs := [10]) (by kernel_rfl) (by simp) ?_
          refine AllReadyH.cons rfl (fun K hK => ?_) AllReadyH.nil
          refine step_append_lies _ rfl _ _ 22 rfl wr.heap.size 104 i0 (.int .u32 0) 1 4 Tryz.underlying22 hi hy0 hy1 hy2 rfl (by decide) (.slice none 0 0) 0 [] rfl (World.ownsRow_nil _ _ _ _) a (m + 1) cap ((l.take (m + 1)).map fun (x : Nat) => Value.int .u32 (x : Int)) rfl (by rw [List.length_map, hlk]; omega) (fun j u hj => by
            rw [List.getElem?_map] at hj
            cases hx : (l.take (m + 1))[j]? with
            | none => rw [hx] at hj; simp at hj
            | some x =>
              rw [hx] at hj
              simp only [Option.map_some, Option.some.injEq] at hj
              subst hj
              obtain ⟨a', ha, hc⟩ := hLt.out j x hx
              obtain rfl := Option.some.inj ha
              exact hc) (fun u hu => by obtain ⟨x, _, rfl⟩ := List.mem_map.1 hu; rfl) (by omega) (by unfold maxLen; omega) (by omega) (by exact Nat.le_refl _) _ rfl ?_
          intro g c1 w1 hown hgrow hat hlt
          have hB1 : Below wr.heap.size wr w1 := ((Below.refl _ wr).drew).grown hgrow (Nat.le_refl _) (fun k hk => by simp [Value.ownBlock] at hk)
          obtain ⟨g1, g2, g3, g4⟩ := id (kA.below hB1 (by omega))
          obtain ⟨g5, g6, g7, g8⟩ := id (kB.below hB1 (by omega))
          have kB1 := kB.below hB1 (by omega)
          refine hK.out _ _ ?_ (fun hHeld => ?_)
          · first | assumption | go_keep | (refine ⟨?_, ?_⟩ <;> (rw [World.cell?_setCell_other _ _ _ _ (by simp; try omega), World.cell?_setCell_other _ _ _ _ (by simp; try omega)]; assumption))
          clear hK K
          try simp (maxSteps := 10000000) only [List.getElem_toArray, List.getElem_cons_succ, List.getElem_cons_zero, Act.put, List.setIfInBounds_toArray, List.set_cons_zero, List.set_cons_succ]
          refine wpAnyH_take (i := 11) (oi := _) (v := ?_) rfl (by kernel_rfl) (by kernel_rfl) (by kernel_rfl) (fun _ _ _ h => h) (Or.inl ⟨by rfl, ?_⟩) (by assumption) ?_
          rotate_left 1
          · (intro w hSw; (try dsimp only at hSw); go_simp; try with_reducible rfl)
          try simp (maxSteps := 10000000) only [List.getElem_toArray, List.getElem_cons_succ, List.getElem_cons_zero, Act.put, List.setIfInBounds_toArray, List.set_cons_zero, List.set_cons_succ]
          refine wpAnyH_ready (rs := [12]) (by kernel_rfl) (by simp) ?_
          refine AllReadyH.cons rfl (fun K hK => ?_) AllReadyH.nil
          go_simp
          skip
          try go_simp
          refine hK.out _ _ ?_ (fun hHeld => ?_)
          · first | assumption | go_keep | (refine ⟨?_, ?_⟩ <;> (rw [World.cell?_setCell_other _ _ _ _ (by simp; try omega), World.cell?_setCell_other _ _ _ _ (by simp; try omega)]; assumption))
          clear hK K
          try simp (maxSteps := 10000000) only [List.getElem_toArray, List.getElem_cons_succ, List.getElem_cons_zero, Act.put, List.setIfInBounds_toArray, List.set_cons_zero, List.set_cons_succ]
          refine wpAnyH_done (by kernel_rfl) ?_ _
          go_wp2
          have hF : Fr wr.heap.size (.slice (some ⟨g, 0, none⟩) (m + 1) c1) G w1 := by
            rw [hGe'.out]
            unfold Fr
            rw [hlk]
            simpa using hown
          have hF2 := ((hF.set (p := ⟨w.heap.size + 1, 0, none⟩) (by simp; omega) (.bool false)).set (p := ⟨w.heap.size + 1, 1, none⟩) (by simp; omega) (.slice (some ⟨g, 0, none⟩) (m + 1) c1)).mono (B' := w.heap.size) (by omega)
          have hB2 := below_and hB0 (Nat.le_refl _) hB1
          refine bodyPost_ret (v := .agg #[.bool false, .slice (some ⟨g, 0, none⟩) (m + 1) c1]) (by simp [results, Tryz.results36, go_sem, g5, g6]) rfl ⟨_, rfl, hF2, ?_⟩
          exact (hB2.setCell (p := ⟨w.heap.size + 1, 0, none⟩) (by simp) _).setCell (p := ⟨w.heap.size + 1, 1, none⟩) (by simp) _
        · go_wp2
          refine wp_region_held_drew (S := fun w' => w'.cell? ⟨w.heap.size, 0, none⟩ = some (.bool true) ∧ w'.cell? ⟨w.heap.size, 1, none⟩ = some (.slice (some a) l.length cap)) (by kernel_rfl) (by go_keep) (fun hHeld => ?_)
          refine wpAnyH_take (i := 0) (oi := _) (v := ?_) rfl (by kernel_rfl) (by kernel_rfl) (by kernel_rfl) (fun _ _ _ h => h) (Or.inl ⟨by rfl, ?_⟩) (by assumption) ?_
          rotate_left 1
          · (intro w hSw; (try dsimp only at hSw); go_simp; try with_reducible rfl)
          try simp (maxSteps := 10000000) only [List.getElem_toArray, List.getElem_cons_succ, List.getElem_cons_zero, Act.put, List.setIfInBounds_toArray, List.set_cons_zero, List.set_cons_succ]
          refine wpAnyH_take (i := 1) (oi := _) (v := ?_) rfl (by kernel_rfl) (by kernel_rfl) (by kernel_rfl) (fun _ _ _ h => h) (Or.inl ⟨by rfl, ?_⟩) (by assumption) ?_
          rotate_left 1
          · (intro w hSw; (try dsimp only at hSw); go_simp; try with_reducible rfl)
          try simp (maxSteps := 10000000) only [List.getElem_toArray, List.getElem_cons_succ, List.getElem_cons_zero, Act.put, List.setIfInBounds_toArray, List.set_cons_zero, List.set_cons_succ]
          refine wpAnyH_take (i := 2) (oi := _) (v := ?_) rfl (by kernel_rfl) (by kernel_rfl) (by kernel_rfl) (fun _ _ _ h => h) (Or.inl ⟨by rfl, ?_⟩) (by assumption) ?_
          rotate_left 1
          · (intro w hSw; (try dsimp only at hSw); go_simp; try with_reducible rfl)
          try simp (maxSteps := 10000000) only [List.getElem_toArray, List.getElem_cons_succ, List.getElem_cons_zero, Act.put, List.setIfInBounds_toArray, List.set_cons_zero, List.set_cons_succ]
          refine wpAnyH_take (i := 3) (oi := _) (v := ?_) rfl (by kernel_rfl) (by kernel_rfl) (by kernel_rfl) (fun _ _ _ h => h) (Or.inl ⟨by rfl, ?_⟩) (by assumption) ?_
          rotate_left 1
          · (intro w hSw; (try dsimp only at hSw); go_simp; try with_reducible rfl)
          try simp (maxSteps := 10000000) only [List.getElem_toArray, List.getElem_cons_succ, List.getElem_cons_zero, Act.put, List.setIfInBounds_toArray, List.set_cons_zero, List.set_cons_succ]
          refine wpAnyH_take (i := 4) (oi := _) (v := ?_) rfl (by kernel_rfl) (by kernel_rfl) (by kernel_rfl) (fun _ _ _ h => h) (Or.inl ⟨by rfl, ?_⟩) (by assumption) ?_
          rotate_left 1
          · (intro w hSw; (try dsimp only at hSw); go_simp; try with_reducible rfl)
          try simp (maxSteps := 10000000) only [List.getElem_toArray, List.getElem_cons_succ, List.getElem_cons_zero, Act.put, List.setIfInBounds_toArray, List.set_cons_zero, List.set_cons_succ]
          refine wpAnyH_take (i := 5) (oi := _) (v := ?_) rfl (by kernel_rfl) (by kernel_rfl) (by kernel_rfl) (fun _ _ _ h => h) (Or.inl ⟨by rfl, ?_⟩) (by assumption) ?_
          rotate_left 1
          · (intro w hSw; (try dsimp only at hSw); go_simp; try with_reducible rfl)
          try simp (maxSteps := 10000000) only [List.getElem_toArray, List.getElem_cons_succ, List.getElem_cons_zero, Act.put, List.setIfInBounds_toArray, List.set_cons_zero, List.set_cons_succ]
          refine wpAnyH_take (i := 6) (oi := _) (v := ?_) rfl (by kernel_rfl) (by kernel_rfl) (by kernel_rfl) (fun _ _ _ h => h) (Or.inl ⟨by rfl, ?_⟩) (by assumption) ?_
          rotate_left 1
          · (intro w hSw; (try dsimp only at hSw); go_simp; try with_reducible rfl)
          try simp (maxSteps := 10000000) only [List.getElem_toArray, List.getElem_cons_succ, List.getElem_cons_zero, Act.put, List.setIfInBounds_toArray, List.set_cons_zero, List.set_cons_succ]
          refine wpAnyH_take (i := 7) (oi := _) (v := ?_) rfl (by kernel_rfl) (by kernel_rfl) (by kernel_rfl) (fun _ _ _ h => h) (Or.inl ⟨by rfl, ?_⟩) (by assumption) ?_
          rotate_left 1
          · (intro w hSw; (try dsimp only at hSw); go_simp; try with_reducible rfl)
          try simp (maxSteps := 10000000) only [List.getElem_toArray, List.getElem_cons_succ, List.getElem_cons_zero, Act.put, List.setIfInBounds_toArray, List.set_cons_zero, List.set_cons_succ]
          refine wpAnyH_take (i := 8) (oi := _) (v := ?_) rfl (by kernel_rfl) (by kernel_rfl) (by kernel_rfl) (fun _ _ _ h => h) (Or.inl ⟨by rfl, ?_⟩) (by assumption) ?_
          rotate_left 1
          · (intro w hSw; (try dsimp only at hSw); go_simp; try with_reducible rfl)
          try simp (maxSteps := 10000000) only [List.getElem_toArray, List.getElem_cons_succ, List.getElem_cons_zero, Act.put, List.setIfInBounds_toArray, List.set_cons_zero, List.set_cons_succ]
          refine wpAnyH_take (i := 9) (oi := _) (v := ?_) rfl (by kernel_rfl) (by kernel_rfl) (by kernel_rfl) (fun _ _ _ h => h) (Or.inl ⟨by rfl, ?_⟩) (by assumption) ?_
          rotate_left 1
          · (intro w hSw; (try dsimp only at hSw); go_simp; try with_reducible rfl)
          try simp (maxSteps := 10000000) only [List.getElem_toArray, List.getElem_cons_succ, List.getElem_cons_zero, Act.put, List.setIfInBounds_toArray, List.set_cons_zero, List.set_cons_succ]
          refine wpAnyH_ready (rs := [10]) (by kernel_rfl) (by simp) ?_
          refine AllReadyH.cons rfl (fun K hK => ?_) AllReadyH.nil
          refine step_append_lies _ rfl _ _ 22 rfl wr.heap.size 104 i0 (.int .u32 0) 1 4 Tryz.underlying22 hi hy0 hy1 hy2 rfl (by decide) (.slice none 0 0) 0 [] rfl (World.ownsRow_nil _ _ _ _) a (m + 1) cap ((l.take (m + 1)).map fun (x : Nat) => Value.int .u32 (x : Int)) rfl (by rw [List.length_map, hlk]; omega) (fun j u hj => by
            rw [List.getElem?_map] at hj
            cases hx : (l.take (m + 1))[j]? with
            | none => rw [hx] at hj; simp at hj
            | some x =>
              rw [hx] at hj
              simp only [Option.map_some, Option.some.injEq] at hj
              subst hj
              obtain ⟨a', ha, hc⟩ := hLt.out j x hx
              obtain rfl := Option.some.inj ha
              exact hc) (fun u hu => by obtain ⟨x, _, rfl⟩ := List.mem_map.1 hu; rfl) (by omega) (by unfold maxLen; omega) (by omega) (by exact Nat.le_refl _) _ rfl ?_
          intro g c1 w1 hown hgrow hat hlt
          have hB1 : Below wr.heap.size wr w1 := ((Below.refl _ wr).drew).grown hgrow (Nat.le_refl _) (fun k hk => by simp [Value.ownBlock] at hk)
          obtain ⟨g1, g2, g3, g4⟩ := id (kA.below hB1 (by omega))
          obtain ⟨g5, g6, g7, g8⟩ := id (kB.below hB1 (by omega))
          have kB1 := kB.below hB1 (by omega)
          refine hK.out _ _ ?_ (fun hHeld => ?_)
          · first | assumption | go_keep | (refine ⟨?_, ?_⟩ <;> (rw [World.cell?_setCell_other _ _ _ _ (by simp; try omega), World.cell?_setCell_other _ _ _ _ (by simp; try omega)]; assumption))
          clear hK K
          try simp (maxSteps := 10000000) only [List.getElem_toArray, List.getElem_cons_succ, List.getElem_cons_zero, Act.put, List.setIfInBounds_toArray, List.set_cons_zero, List.set_cons_succ]
          refine wpAnyH_take (i := 11) (oi := _) (v := ?_) rfl (by kernel_rfl) (by kernel_rfl) (by kernel_rfl) (fun _ _ _ h => h) (Or.inl ⟨by rfl, ?_⟩) (by assumption) ?_
          rotate_left 1
          · (intro w hSw; (try dsimp only at hSw); go_simp; try with_reducible rfl)
          try simp (maxSteps := 10000000) only [List.getElem_toArray, List.getElem_cons_succ, List.getElem_cons_zero, Act.put, List.setIfInBounds_toArray, List.set_cons_zero, List.set_cons_succ]
          refine wpAnyH_ready (rs := [12]) (by kernel_rfl) (by simp) ?_
          refine AllReadyH.cons rfl (fun K hK => ?_) AllReadyH.nil
          go_simp
          skip
          try go_simp
          refine hK.out _ _ ?_ (fun hHeld => ?_)
          · first | assumption | go_keep | (refine ⟨?_, ?_⟩ <;> (rw [World.cell?_setCell_other _ _ _ _ (by simp; try omega), World.cell?_setCell_other _ _ _ _ (by simp; try omega)]; assumption))
          clear hK K
          try simp (maxSteps := 10000000) only [List.getElem_toArray, List.getElem_cons_succ, List.getElem_cons_zero, Act.put, List.setIfInBounds_toArray, List.set_cons_zero, List.set_cons_succ]
          refine wpAnyH_done (by kernel_rfl) ?_ _
          go_wp2
          have hF : Fr wr.heap.size (.slice (some ⟨g, 0, none⟩) (m + 1) c1) G w1 := by
            rw [hGe'.out]
            unfold Fr
            rw [hlk]
            simpa using hown
          have hF2 := ((hF.set (p := ⟨w.heap.size + 1, 0, none⟩) (by simp; omega) (.bool true)).set (p := ⟨w.heap.size + 1, 1, none⟩) (by simp; omega) (.slice (some ⟨g, 0, none⟩) (m + 1) c1)).mono (B' := w.heap.size) (by omega)
          have hB2 := below_and hB0 (Nat.le_refl _) hB1
          refine bodyPost_ret (v := .agg #[.bool true, .slice (some ⟨g, 0, none⟩) (m + 1) c1]) (by simp [results, Tryz.results36, go_sem, g5, g6]) rfl ⟨_, rfl, hF2, ?_⟩
          exact (hB2.setCell (p := ⟨w.heap.size + 1, 0, none⟩) (by simp) _).setCell (p := ⟨w.heap.size + 1, 1, none⟩) (by simp) _
    · have hk0 : k ≠ 0 := fun e => hgo (.inl e)
      obtain ⟨m, rfl⟩ : ∃ m, k = m + 1 := ⟨k - 1, by omega⟩
      obtain ⟨x, hx⟩ : ∃ x, l[m]? = some x := ⟨l[m]'(by omega), by simp⟩
      have hx0 : x = 0 := by
        rcases Nat.eq_zero_or_pos x with h1 | h1
        · exact h1
        · exact absurd (.inr ⟨x, by simpa using hx, by omega⟩) hgo
      subst hx0
      obtain ⟨a, rfl, cx⟩ := hLW m 0 hx
      have e1 : (((m + 1 : Nat) : Int) - 1) = (m : Int) := by omega
      have hml : (m : Int) < (l.length : Int) := by omega
      have hpos : (0 : Int) < ((m + 1 : Nat) : Int) := by omega
      have hx' := hid hx
      clear hgo hx hbR' hG'
      go_wp2
      go_roundw
      case rel =>
        refine ⟨m, by go_num, by omega, by first | rfl | trivial, hid fun j y hj hy => ?_⟩
        by_cases hjm : j = m
        · subst hjm; rw [hx'.out] at hy; injection hy with hy; exact hy.symm
        · exact hH.out j y (by omega) hy
      case measure => simp [intOf]
/-- of a value: the same number, as a Norm, in memory of the call's own -/
theorem rnorm_w (v : Value) (Z : Int) (K : Nat) (w : World) (hK : K ≤ 1000000) (h : IsN v Z K w) :
    Calls Tryz.prog 36 #[v] w fun e w' => ∃ sl, e = .returned (.agg #[.bool (decide (Z < 0)), sl]) ∧ Fr w.heap.size sl (glim 4294967296 Z.natAbs) w' ∧ (glim 4294967296 Z.natAbs).length ≤ K ∧ Below w.heap.size w w' := by
  obtain ⟨neg, o, l, c, rfl, hL, hc, hm, hs, hk⟩ := h
  refine (rnorm_raw neg o c l w hm (by omega) hc hL).mono ?_
  rintro e w' ⟨sl, rfl, hF, hB⟩
  have e : Z.natAbs = gval 4294967296 l := by subst hs; unfold sv; cases neg <;> simp
  have e2 : (neg && decide (gval 4294967296 l ≠ 0)) = decide (Z < 0) := by
    subst hs; unfold sv
    cases neg
    · simp
    · by_cases hn : gval 4294967296 l = 0 <;> simp [hn]; omega
  have := gval_len hm
  rw [e2, e]
  exact ⟨sl, rfl, hF, by omega, hB⟩
theorem Fr.isC {B : Nat} {sl : Value} {Z : Int} {K : Nat} {w : World} (h : Fr B sl (glim 4294967296 Z.natAbs) w) (hK : (glim 4294967296 Z.natAbs).length ≤ K) : IsC (.agg #[.bool (decide (Z < 0)), sl]) Z K w := by
  obtain ⟨o, c, rfl, h1, h2, _⟩ := h.parts
  exact ⟨o, c, rfl, h1, h2, hK⟩
end Go.Proofs.YtjacoodfhkaioabGreatDoor
namespace Go.Proofs.YtjacoodfhkaioabGreatDoor
open Go.ChangeShapes Go.WideShapes Go.ChangeAt Go.RowKit
set_option linter.unusedSimpArgs false
set_option linter.unusedVariables false
set_option maxRecDepth 2000
theorem Fr.block {B : Nat} {v : Value} {l : List Nat} {w : World} (h : Fr B v l w) : ∀ q, v.ownBlock = some q → B ≤ q := by
  intro q hq
  rcases h.shape with ⟨rfl, _⟩ | ⟨g, c, rfl⟩
  · simp [Value.ownBlock] at hq
  · simp only [Value.ownBlock, Option.some.injEq] at hq
    have := h.own.1
    omega
theorem Lm.getD {b : Nat} (hb : 0 < b) {l : List Nat} (h : Lm b l) (k : Nat) : l.getD k 0 < b := by
  rw [List.getD_eq_getElem?_getD]
  cases e : l[k]? with
  | none => exact hb
  | some x => exact h.at e
theorem order_w (x y : Int) (w : World) : Calls Tryz.prog 31 #[.int .i64 x, .int .i64 y] w fun e w' => e = .returned (.int .i64 (cmpZ x y)) ∧ w' = w := by
  by_cases h1 : x < y
  · rw [cmpZ_lt h1]
    go_enter Tryz.func31, Tryz.ntmps31
    go_wp2
    go_ret
    exact ⟨rfl, rfl⟩
  · by_cases h2 : y < x
    · rw [cmpZ_gt h2]
      go_enter Tryz.func31, Tryz.ntmps31
      go_wp2
      go_ret
      exact ⟨rfl, rfl⟩
    · have : x = y := by omega
      subst this
      rw [cmpZ_eq]
      go_enter Tryz.func31, Tryz.ntmps31
      go_wp2
      go_ret
      exact ⟨rfl, rfl⟩
set_option maxHeartbeats 1000000 in
theorem mags_w (oa ob : Option Addr) (ca cb : Nat) (m n : Nat) (w : World) (za : (glim 4294967296 m).length ≤ 1000000) (zb : (glim 4294967296 n).length ≤ 1000000) (ha : Lies oa (glim 4294967296 m) w) (hb : Lies ob (glim 4294967296 n) w) :
    Calls Tryz.prog 65 #[.slice oa (glim 4294967296 m).length ca, .slice ob (glim 4294967296 n).length cb] w fun e w' => e = .returned (.int .i64 (cmpZ (m : Int) (n : Int))) ∧ Below w.heap.size w w' := by
  obtain ⟨R, hR⟩ : ∃ R, cmpZ (m : Int) (n : Int) = R := ⟨_, rfl⟩
  rw [hR]
  have hlen' := glim_cmp_len (m := m) (n := n)
  have hat := fun i x y => glim_cmp_at (m := m) (n := n) (i := i) (x := x) (y := y)
  have heq : glim 4294967296 m = glim 4294967296 n → R = 0 := fun e => by
    have := glim_inj (by omega) e
    subst this; rw [← hR, cmpZ_eq]
  rw [hR] at hlen' hat
  have hmX := lm_glim (b := 4294967296) (by omega) m
  have hmY := lm_glim (b := 4294967296) (by omega) n
  generalize glim 4294967296 m = X at *
  generalize glim 4294967296 n = Y at *
  have hlen := hid hlen'
  clear hlen' hR
  by_cases hl : X.length = Y.length
  · have hlz : ((X.length : Int) != (Y.length : Int)) = false := by simp only [bne_eq_false_iff_eq]; omega
    go_enter Tryz.func65, Tryz.ntmps65
    go_wp2
    clear hlz
    go_loopw [5] (fun i wr => ∃ (k : Nat), i = .int .i64 ((k : Int) - 1) ∧ k ≤ X.length ∧ Below w.heap.size w wr ∧ Hid (X.drop k = Y.drop k)) (fun i _ => (intOf i + 1).toNat)
    case atStart => exact ⟨X.length, by go_num, Nat.le_refl _, Below.refl _ _, hid (by rw [List.drop_of_length_le (by omega), List.drop_of_length_le (by omega)])⟩
    case round =>
      obtain ⟨k, rfl, hk, hbw, hH⟩ := hrel
      by_cases h0 : k = 0
      · subst h0
        have hz := heq (by simpa using hH.out)
        go_wp2
        go_ret
        exact ⟨by rw [hz]; rfl, hbw⟩
      · obtain ⟨j, rfl⟩ : ∃ j, k = j + 1 := ⟨k - 1, by omega⟩
        obtain ⟨x, hx⟩ : ∃ x, X[j]? = some x := ⟨X[j]'(by omega), by simp⟩
        obtain ⟨y, hy⟩ : ∃ y, Y[j]? = some y := ⟨Y[j]'(by omega), by simp⟩
        obtain ⟨a, rfl, cx⟩ := (ha.below hbw) j x hx
        obtain ⟨b, rfl, cy⟩ := (hb.below hbw) j y hy
        have e1 : (((j + 1 : Nat) : Int) - 1) = (j : Int) := by omega
        have hjx : (j : Int) < (X.length : Int) := by omega
        have hjy : (j : Int) < (Y.length : Int) := by omega
        rw [e1]
        by_cases hxy : x = y
        · subst hxy
          have hdn : Hid (X.drop j = Y.drop j) := hid (by
            rw [List.drop_eq_getElem_cons (by omega : j < X.length), List.drop_eq_getElem_cons (by omega : j < Y.length), hH.out]
            congr 1
            rw [List.getElem?_eq_getElem (by omega)] at hx hy
            injection hx with hx; injection hy with hy; rw [hx, hy])
          go_wp2
          go_quiet (fail)
          go_wp2
          go_roundw
          case rel => exact ⟨j, by go_num, by omega, below_drewNv hbw _, hdn⟩
          case measure => simp [intOf]
        · have hxz : ((x : Int) != (y : Int)) = true := by simp only [bne_iff_ne, ne_eq]; omega
          have hres := hid (hat j x y hl hH.out hx hy hxy)
          have hxm := hmX.at hx
          have hym := hmY.at hy
          have wx : wrap64 (x : Int) = (x : Int) := by unfold wrap64; omega
          have wy : wrap64 (y : Int) = (y : Int) := by unfold wrap64; omega
          clear hat heq
          go_wp2
          go_quiet (fail)
          have hbw' := below_drewNv hbw nq
          obtain ⟨a', ea, cx'⟩ := (ha.below hbw') j x hx
          obtain ⟨b', eb, cy'⟩ := (hb.below hbw') j y hy
          cases ea; cases eb
          clear cx cy hbw
          generalize wr.drewN nq = wq at *
          go_wp2
          go_quiet ((go_at_call 31; exact Calls.quiet_of_same (order_w _ _ _)))
          go_wp2
          go_ret
          exact ⟨by rw [hres.out]; rfl, below_drewNv hbw' _⟩
  · have hlz : ((X.length : Int) != (Y.length : Int)) = true := by simp only [bne_iff_ne, ne_eq]; omega
    go_enter Tryz.func65, Tryz.ntmps65
    go_wp2_with fail
    refine (order_w _ _ _).mono ?_
    rintro e w1 ⟨rfl, rfl⟩
    go_wp2
    go_ret
    exact ⟨by rw [hlen.out hl]; rfl, Below.refl _ _⟩
theorem Fr.push {B : Nat} {v' : Value} {L : List Nat} {x : Nat} {w : World} (h : w.ownsRow B 104 1 v' (L.length + 1) ((L.map fun (x : Nat) => Value.int .u32 (x : Int)) ++ [.int .u32 (x : Int)])) : Fr B v' (L ++ [x]) w := by
  unfold Fr
  simpa using h
end Go.Proofs.YtjacoodfhkaioabGreatDoor
namespace Go.Proofs.YtjacoodfhkaioabGreatDoor
open Go.ChangeShapes Go.WideShapes Go.ChangeAt Go.ChangeMaps Go.RowKit
set_option linter.unusedSimpArgs false
set_option linter.unusedVariables false
set_option maxRecDepth 2000
theorem one34 : Tryz.prog.cellsOf 104 = 1 := by kernel_rfl
end Go.Proofs.YtjacoodfhkaioabGreatDoor
namespace Go.Proofs.YtjacoodfhkaioabGreatDoor
open Go.ChangeShapes Go.WideShapes Go.ChangeAt Go.ChangeMaps Go.RowKit
set_option linter.unusedSimpArgs false
set_option linter.unusedVariables false
set_option maxRecDepth 2000
theorem wpAnyH_inv {σ : Type} {P : Program} {md : Region.Mode} {ops : Array Oper} {Q : Exit → Act → World → Prop} {S : World → Prop} {m : Nat} (L : σ → Array Bool) (A : σ → Act) (R : σ → World → Prop) (n : σ → Nat)
    (hne : ∀ s w, R s w → n s ≠ 0 → Region.ready md ops (L s) ≠ [])
    (hstep : ∀ s w, R s w → n s ≠ 0 → ∀ i ∈ Region.ready md ops (L s), wpOp P ops Q i (fun a' w' => ∃ s', n s = n s' + 1 ∧ L s' = (L s).setIfInBounds i true ∧ a' = A s' ∧ R s' w' ∧ S w') (A s) w)
    (hdone : ∀ s w, R s w → n s = 0 → wpAnyH P md ops Q S m (L s) (A s) w) :
    ∀ (k : Nat) (s : σ) (w : World) (listed : Array Bool) (a : Act), n s = k → listed = L s → a = A s → R s w → wpAnyH P md ops Q S (m + k) listed a w := by
  intro k
  induction k with
  | zero =>
    intro s w listed a hn hl ha hR
    subst hl ha
    exact hdone s w hR hn
  | succ k ih =>
    intro s w listed a hn hl ha hR
    subst hl ha
    refine ⟨fun h0 => absurd h0 (hne s w hR (by omega)), fun i hi => ?_⟩
    refine wpOp_mono (fun a' w' h => ?_) (hstep s w hR (by omega) i hi)
    obtain ⟨s', h1, h2, h3, h4, h5⟩ := h
    exact ⟨h5, ih s' w' _ _ (by omega) h2.symm h3 h4⟩
theorem below_and' {N : Nat} {w w' w'' : World} (h : Below N w w') (hN : N ≤ w'.heap.size) (h' : Below w'.heap.size w' w'') : Below N w w'' := h.trans (below_le h' hN)
/-- a variable of two cells, new, at a place of the call's own -/
def NewBox (N : Nat) (x u v : Value) (w : World) : Prop := ∃ g, x = .pointer (some ⟨g, 0, none⟩) ∧ N ≤ g ∧ g < w.heap.size ∧ Box g u v w
theorem NewBox.below {N : Nat} {x u v : Value} {w w' : World} (h : NewBox N x u v w) (hb : Below w.heap.size w w') : NewBox N x u v w' := by
  obtain ⟨g, rfl, h1, h2, h3⟩ := h
  exact ⟨g, rfl, h1, Nat.lt_of_lt_of_le h2 hb.size, h3.below hb h2⟩
theorem NewBox.new {N : Nat} (u v : Value) (w : World) (t : TypeId) (hN : N ≤ w.heap.size) : NewBox N (.pointer (some ⟨w.heap.size, 0, none⟩)) u v (w.alloc (.cells #[u, v] t)) :=
  ⟨w.heap.size, rfl, hN, by simp, Box.new w u v t⟩
/-- three calls in a row beside three variables that are made at any time: what has come up -/
structure St3 where
  l1 : Bool
  l3 : Bool
  l5 : Bool
  l6 : Bool
  l7 : Bool
  l8 : Bool
  x1 : Value
  x3 : Value
  x5 : Value
  x6 : Value
  x7 : Value
  x8 : Value
def St3.L (s : St3) : Array Bool := #[true, s.l1, true, s.l3, true, s.l5, s.l6, s.l7, s.l8, false, false, false]
def St3.n (s : St3) : Nat := (!s.l1).toNat + (!s.l3).toNat + (!s.l5).toNat + (!s.l6).toNat + (!s.l7).toNat + (!s.l8).toNat
structure R3 (N : Nat) (W : World) (va vb vc z0 z1 : Value) (s : St3) (w : World) : Prop where
  bel : Below N W w
  size : N ≤ w.heap.size
  o3 : s.l3 = true → s.l1 = true
  o5 : s.l5 = true → s.l3 = true
  h1 : s.l1 = true → s.x1 = va
  h3 : s.l3 = true → s.x3 = vb
  h5 : s.l5 = true → s.x5 = vc
  h6 : s.l6 = true → NewBox N s.x6 z0 z1 w
  h7 : s.l7 = true → NewBox N s.x7 z0 z1 w
  h8 : s.l8 = true → NewBox N s.x8 z0 z1 w
  h67 : s.l6 = true → s.l7 = true → s.x6 ≠ s.x7
  h68 : s.l6 = true → s.l8 = true → s.x6 ≠ s.x8
  h78 : s.l7 = true → s.l8 = true → s.x7 ≠ s.x8
theorem R3.on {N : Nat} {W : World} {va vb vc z0 z1 : Value} {s : St3} {w w' : World} (h : R3 N W va vb vc z0 z1 s w) (hb : Below w.heap.size w w') : R3 N W va vb vc z0 z1 s w' :=
  ⟨below_and' h.bel h.size hb, Nat.le_trans h.size hb.size, h.o3, h.o5, h.h1, h.h3, h.h5, fun e => (h.h6 e).below hb, fun e => (h.h7 e).below hb, fun e => (h.h8 e).below hb, h.h67, h.h68, h.h78⟩
theorem R3.c1 {N : Nat} {W : World} {va vb vc z0 z1 : Value} {s : St3} {w w' : World} (h : R3 N W va vb vc z0 z1 s w) (hb : Below w.heap.size w w') : R3 N W va vb vc z0 z1 { s with l1 := true, x1 := va } w' := by
  have k := h.on hb
  exact ⟨k.bel, k.size, fun _ => rfl, k.o5, fun _ => rfl, k.h3, k.h5, k.h6, k.h7, k.h8, k.h67, k.h68, k.h78⟩
theorem R3.c3 {N : Nat} {W : World} {va vb vc z0 z1 : Value} {s : St3} {w w' : World} (h : R3 N W va vb vc z0 z1 s w) (he : s.l1 = true) (hb : Below w.heap.size w w') : R3 N W va vb vc z0 z1 { s with l3 := true, x3 := vb } w' := by
  have k := h.on hb
  exact ⟨k.bel, k.size, fun _ => he, fun _ => rfl, k.h1, fun _ => rfl, k.h5, k.h6, k.h7, k.h8, k.h67, k.h68, k.h78⟩
theorem R3.c5 {N : Nat} {W : World} {va vb vc z0 z1 : Value} {s : St3} {w w' : World} (h : R3 N W va vb vc z0 z1 s w) (he : s.l3 = true) (hb : Below w.heap.size w w') : R3 N W va vb vc z0 z1 { s with l5 := true, x5 := vc } w' := by
  have k := h.on hb
  exact ⟨k.bel, k.size, k.o3, fun _ => he, k.h1, k.h3, fun _ => rfl, k.h6, k.h7, k.h8, k.h67, k.h68, k.h78⟩
def bAll (f : Bool → Bool) : Bool := f false && f true
theorem bAll_spec {f : Bool → Bool} (h : bAll f = true) (b : Bool) : f b = true := by
  unfold bAll at h
  rw [Bool.and_eq_true] at h
  cases b
  · exact h.1
  · exact h.2
theorem wpAnyH_name {P : Program} {md : Region.Mode} {ops : Array Oper} {Q : Exit → Act → World → Prop} {S : World → Prop} {m : Nat} {listed : Array Bool} {a : Act} {w : World} (h : ∀ a0, a0 = a → wpAnyH P md ops Q S m listed a0 w) : wpAnyH P md ops Q S m listed a w := h a rfl
theorem wpAnyH_at {P : Program} {md : Region.Mode} {ops : Array Oper} {Q : Exit → Act → World → Prop} {S : World → Prop} {m m' : Nat} {listed listed' : Array Bool} {a : Act} {w : World} (hm : m = m') (hl : listed = listed') (h : wpAnyH P md ops Q S m' listed' a w) : wpAnyH P md ops Q S m listed a w := by
  subst hm hl; exact h
theorem IsC.shape {v : Value} {Z : Int} {K : Nat} {w : World} (h : IsC v Z K w) : ∃ b o n c, v = .agg #[.bool b, .slice o n c] := by
  obtain ⟨o, c, rfl, _⟩ := h
  exact ⟨_, _, _, _, rfl⟩
theorem IsC.parts {b : Bool} {o : Option Addr} {n c : Nat} {Z : Int} {K : Nat} {w : World} (h : IsC (.agg #[.bool b, .slice o n c]) Z K w) : b = decide (Z < 0) ∧ n = (glim 4294967296 Z.natAbs).length := by
  obtain ⟨o', c', e, _⟩ := h
  simp only [Value.agg.injEq, Array.mk.injEq, List.cons.injEq, Value.bool.injEq, Value.slice.injEq, and_true] at e
  exact ⟨e.1, e.2.2.1⟩
theorem Box.lt {g : Nat} {u v : Value} {w : World} (h : Box g u v w) : g < w.heap.size := World.block_lt_of_cell? _ _ h.1
theorem cmpZ_swap (x y : Int) : -cmpZ y x = cmpZ x y := by
  simp only [cmpZ]
  split <;> split <;> (try split) <;> omega
end Go.Proofs.YtjacoodfhkaioabGreatDoor
namespace Go.Proofs.YtjacoodfhkaioabGreatDoor
open Go.ChangeShapes Go.WideShapes Go.ChangeAt Go.RowKit
set_option linter.unusedSimpArgs false
set_option linter.unusedVariables false
set_option maxRecDepth 2000
theorem wrap_cmp (x y : Int) : wrap64 (-cmpZ x y) = cmpZ y x := by
  rw [cmpZ_swap]
  unfold cmpZ wrap64
  split <;> (try split) <;> omega
set_option maxHeartbeats 1000000 in
theorem rcmp_w (va vb : Value) (X Y : Int) (kk : Nat) (w : World) (hK : kk ≤ 1000000) (ha : IsN va X kk w) (hb : IsN vb Y kk w) :
    Calls Tryz.prog 32 #[va, vb] w fun e w' => e = .returned (.int .i64 (cmpZ X Y)) ∧ Below w.heap.size w w' := by
  have hA : ∀ w', Below w.heap.size w w' → IsN va X kk w' := fun w' hw => ha.below hw
  have hB : ∀ w', Below w.heap.size w w' → IsN vb Y kk w' := fun w' hw => hb.below hw
  obtain ⟨na, oa, la, ca, rfl, hLa, hca, hma, hsa, hka⟩ := ha
  obtain ⟨nb, ob, lb, cb, rfl, hLb, hcb, hmb, hsb, hkb⟩ := hb
  clear hsa hsb hma hmb hLa hLb hca hcb hka hkb
  obtain ⟨kA, kB, hB0, hz0⟩ := boxes2 w (.bool na) (.slice oa la.length ca) (.bool nb) (.slice ob lb.length cb) 73 73
  obtain ⟨R, hR⟩ : ∃ R, cmpZ X Y = R := ⟨_, rfl⟩
  rw [hR]
  have hRH := hid hR
  clear hR
  go_enter Tryz.func32, Tryz.ntmps32
  go_wp2
  generalize ((w.alloc (.cells #[.bool na, .slice oa la.length ca] 73)).alloc (.cells #[.bool nb, .slice ob lb.length cb] 73)) = W0 at *
  obtain ⟨f1, f2, f3, f4⟩ := id kA
  obtain ⟨f5, f6, f7, f8⟩ := id kB
  go_cut [] from 6 to 9 (fun wx => Two X Y kk w wx ∧ After w W0 wx)
  case first =>
    go_region_with (first
        | (go_at_call_of 36 oa
           refine (rnorm_w _ X kk _ (by omega) (hA _ hB0.drew)).mono ?_
           rintro e w1 ⟨s1, rfl, hF1, q1, b1'⟩
           have b1 : Below W0.heap.size W0 w1 := ((Below.refl _ W0).drew).trans b1'
           clear b1'
           obtain ⟨o1, c1, rfl, L1, z1, _⟩ := hF1.parts
           have hB1 : Below w.heap.size w w1 := below_and hB0 (Nat.le_refl _) b1
           have hz1 := b1.size
           obtain ⟨p1, p2, p3, p4⟩ := kA.below b1 (by omega)
           obtain ⟨p5, p6, p7, p8⟩ := kB.below b1 (by omega))
        | (go_at_call_of 36 ob
           refine (rnorm_w _ Y kk _ (by omega) (hB _ hB1)).mono ?_
           rintro e w2 ⟨s2, rfl, hF2, q2, b2'⟩
           have b2 : Below W0.heap.size W0 w2 := below_and b1 (Nat.le_refl _) b2'
           have L1' := L1.below b2'
           clear b2' p1 p2 p3 p4 p5 p6 p7 p8
           obtain ⟨o2, c2, rfl, L2, z2, _⟩ := hF2.parts
           have kA2 := kA.below b2 (by omega)
           have kB2 := kB.below b2 (by omega)
           obtain ⟨p1, p2, p3, p4⟩ := id kA2
           obtain ⟨p5, p6, p7, p8⟩ := id kB2))
    all_goals (go_wp2_with fail; go_meet)
    all_goals (have hAf := after_put (a0 := .bool (decide (X < 0))) (a1 := .slice o1 (glim 4294967296 X.natAbs).length c1) (b0 := .bool (decide (Y < 0))) (b1 := .slice o2 (glim 4294967296 Y.natAbs).length c2) hB0 (by omega) b2; exact ⟨⟨o1, c1, o2, c2, (boxes_put kA kB (by omega) b2).1, (boxes_put kA kB (by omega) b2).2, (L1'.box kA2 _ _).box (kB2.far (by omega)) _ _, (L2.box kA2 _ _).box (kB2.far (by omega)) _ _, z1, z2, q1, q2⟩, hAf⟩)
  case rest =>
    obtain ⟨⟨o1, c1, o2, c2, kA', kB', L1, L2, z1, z2, q1, q2⟩, hAf⟩ := hcut
    have hsz := hAf.2.1
    have hBx := hAf.2.2
    clear hAf kA kB f1 f2 f3 f4 f5 f6 f7 f8 hB0 hA hB
    have bA := kA'.lt
    obtain ⟨f1, f2, f3, f4⟩ := id kA'
    obtain ⟨f5, f6, f7, f8⟩ := id kB'
    by_cases hx : X < 0
    · have hdx : decide (X < 0) = true := by simp [hx]
      rw [hdx] at f1 kA'
      by_cases hy : Y < 0
      · have hdy : decide (Y < 0) = true := by simp [hy]
        rw [hdy] at f5
        have hres : R = cmpZ (Y.natAbs : Int) (X.natAbs : Int) := by
          rw [← hRH.out, ← cmpZ_neg]; congr 1 <;> omega
        have Hres := hid hres
        clear hx hy hdx hdy hRH hres
        go_wp2_with fail
        refine (mags_w o1 o2 c1 c2 _ _ _ (by omega) (by omega) L1 L2).mono ?_
        rintro e wd ⟨rfl, bd⟩
        obtain ⟨g1, g2, g3, g4⟩ := id (kA'.below bd bA)
        go_wp2
        go_ret
        exact ⟨by rw [Hres.out]; exact congrArg (fun z => Ending.returned (Value.int .i64 z)) (wrap_cmp _ _), below_and hBx (Nat.le_refl _) bd⟩
      · have hdy : decide (Y < 0) = false := by simp [hy]
        rw [hdy] at f5
        have hres : R = -1 := by rw [← hRH.out, cmpZ_lt (by omega)]
        clear hx hy hdx hdy hRH
        go_wp2
        go_ret
        exact ⟨by rw [hres]; rfl, hBx⟩
    · have hdx : decide (X < 0) = false := by simp [hx]
      rw [hdx] at f1 kA'
      by_cases hy : Y < 0
      · have hdy : decide (Y < 0) = true := by simp [hy]
        rw [hdy] at f5
        have hres : R = 1 := by rw [← hRH.out, cmpZ_gt (by omega)]
        clear hx hy hdx hdy hRH
        go_wp2
        go_ret
        exact ⟨by rw [hres]; rfl, hBx⟩
      · have hdy : decide (Y < 0) = false := by simp [hy]
        rw [hdy] at f5
        have hres : R = cmpZ (X.natAbs : Int) (Y.natAbs : Int) := by
          rw [← hRH.out]; congr 1 <;> omega
        have Hres := hid hres
        clear hx hy hdx hdy hRH hres
        go_wp2_with fail
        refine (mags_w o1 o2 c1 c2 _ _ _ (by omega) (by omega) L1 L2).mono ?_
        rintro e wd ⟨rfl, bd⟩
        obtain ⟨g1, g2, g3, g4⟩ := id (kA'.below bd bA)
        go_wp2
        go_ret
        exact ⟨by rw [Hres.out]; rfl, below_and hBx (Nat.le_refl _) bd⟩
end Go.Proofs.YtjacoodfhkaioabGreatDoor
