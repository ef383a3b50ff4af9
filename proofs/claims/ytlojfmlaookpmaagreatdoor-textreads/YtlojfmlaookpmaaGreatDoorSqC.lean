/- Texts of mine, one behind the other: BigRNorm, BigAwake, BigRPlus. -/
import Derived.Test.YtlojfmlaookpmaaGreatDoorSqB
import Derived.Laws.OwnMore
import Derived.Deep.RegionHeld3
import Derived.ChangeMaps5
set_option linter.unusedSimpArgs false
set_option linter.unusedVariables false
set_option maxRecDepth 2000
open List renaming getElem_toArray → zga, getElem_cons_succ → zgs, getElem_cons_zero → zgz, setIfInBounds_toArray → zsa, set_cons_succ → zss, set_cons_zero → zsz
namespace Go.Proofs.YtlojfmlaookpmaaGreatDoor
open Go.ChangeShapes Go.WideShapes Go.ChangeAt Go.RowKit
set_option maxHeartbeats 1000000 in
theorem rnorm_raw (neg : Bool) (ao : Option Addr) (cap : Nat) (l : List Nat) (w : World) (hl : Lm 4294967296 l) (hlen : l.length ≤ 1000000) (hcap : l.length ≤ cap) (h : Lies ao l w) :
   Calls Tryz.prog 67 #[.agg #[.bool neg, .slice ao l.length cap]] w fun e w' => ∃ sl, e = .returned (.agg #[.bool (neg && decide (gval 4294967296 l ≠ 0)), sl]) ∧ Fr w.heap.size sl (glim 4294967296 (gval 4294967296 l)) w' ∧ Below w.heap.size w w' := by
 obtain ⟨bR, hbR⟩ : ∃ bR, (neg && decide (gval 4294967296 l ≠ 0)) = bR := ⟨_, rfl⟩
 obtain ⟨G, hG⟩ : ∃ G, glim 4294967296 (gval 4294967296 l) = G := ⟨_, rfl⟩
 rw [hbR, hG]
 have hbR' := hid hbR
 have hG' := hid hG
 clear hbR hG
 obtain ⟨kA, kB, hB0, hz0⟩ := boxes2 w (.bool neg) (.slice ao l.length cap) (.bool false) (.slice none 0 0) 68 68
 have hLW := h.below hB0
 go_enter Tryz.func67, Tryz.ntmps67
 go_wp2
 generalize ((w.alloc (.cells #[.bool neg, .slice ao l.length cap] 68)).alloc (.cells #[.bool false, .slice none 0 0] 68)) = W at *
 obtain ⟨f1, f2, f3, f4⟩ := id kA
 obtain ⟨f5, f6, f7, f8⟩ := id kB
 go_loopw [3] (fun v wr => ∃ k : Nat, v = .int .i64 (k : Int) ∧ k ≤ l.length ∧ wr = W ∧ Hid (∀ j x, k ≤ j → l[j]? = some x → x = 0)) (fun v _ => (intOf v).toNat)
 case atStart => exact ⟨l.length, rfl, Nat.le_refl _, rfl, hid fun j x hj hx => absurd (List.getElem?_eq_some_iff.1 hx).1 (by omega)⟩
 case round =>
   obtain ⟨k, rfl, hk, rfl, hH⟩ := hrel
   by_cases hgo : k = 0 ∨ ∃ x, l[k - 1]? = some x ∧ x ≠ 0
   · have hgl := hid (glim_take (by omega) hl hk hH.out hgo)
     have hkc : (k : Int) ≤ (cap : Int) := by omega
     have hnz : Hid (decide (gval 4294967296 l ≠ 0) = decide (0 < k)) := hid (by
       rw [Bool.eq_iff_iff]; simp only [decide_eq_true_eq]
       constructor
       · intro h1
         refine Nat.pos_of_ne_zero fun e => h1 ?_
         have := hgl.out
         rw [e, List.take_zero] at this
         exact (glim_nil (by omega)).1 this
       · intro h1 h2
         have := hgl.out
         rw [h2, glim_zero] at this
         have := congrArg List.length this
         rw [List.length_take] at this
         simp at this; omega)
     by_cases h0 : k = 0
     · subst h0
       have hGe : G = [] := by rw [← hG'.out, hgl.out, List.take_zero]
       have hbe : bR = false := by rw [← hbR'.out, hnz.out]; simp
       subst hGe hbe
       clear hgl hnz hgo hH hG' hbR'
       cases ao with
       | none =>
         cases neg
         · go_wp2
           refine wp_region_held_drew (S := fun w' => w'.cell? ⟨w.heap.size, 0, none⟩ = some (.bool false) ∧ w'.cell? ⟨w.heap.size, 1, none⟩ = some (.slice none l.length cap)) (by kernel_rfl) (by go_keep) (fun hHeld => ?_)
           refine wpAnyH_take (i := 0) (oi := _) (v := ?_) rfl (by kernel_rfl) (by kernel_rfl) (by kernel_rfl) (fun _ _ _ h => h) (Or.inl ⟨by rfl, ?_⟩) (by assumption) ?_
           rotate_left 1
           · (intro w hSw; (try dsimp only at hSw); go_simp; try with_reducible rfl)
           try simp (maxSteps := 10000000) only [zga, zgs, zgz, Act.put, zsa, zsz, zss]
           refine wpAnyH_take (i := 1) (oi := _) (v := ?_) rfl (by kernel_rfl) (by kernel_rfl) (by kernel_rfl) (fun _ _ _ h => h) (Or.inl ⟨by rfl, ?_⟩) (by assumption) ?_
           rotate_left 1
           · (intro w hSw; (try dsimp only at hSw); go_simp; try with_reducible rfl)
           try simp (maxSteps := 10000000) only [zga, zgs, zgz, Act.put, zsa, zsz, zss]
           refine wpAnyH_take (i := 2) (oi := _) (v := ?_) rfl (by kernel_rfl) (by kernel_rfl) (by kernel_rfl) (fun _ _ _ h => h) (Or.inl ⟨by rfl, ?_⟩) (by assumption) ?_
           rotate_left 1
           · (intro w hSw; (try dsimp only at hSw); go_simp; try with_reducible rfl)
           try simp (maxSteps := 10000000) only [zga, zgs, zgz, Act.put, zsa, zsz, zss]
           refine wpAnyH_take (i := 3) (oi := _) (v := undef) rfl (by kernel_rfl) (by kernel_rfl) (by kernel_rfl) (fun _ _ _ h => h) (Or.inr ⟨by rfl, rfl⟩) (by assumption) ?_
           try simp (maxSteps := 10000000) only [zga, zgs, zgz, Act.put, zsa, zsz, zss]
           refine wpAnyH_take (i := 4) (oi := _) (v := undef) rfl (by kernel_rfl) (by kernel_rfl) (by kernel_rfl) (fun _ _ _ h => h) (Or.inr ⟨by rfl, rfl⟩) (by assumption) ?_
           try simp (maxSteps := 10000000) only [zga, zgs, zgz, Act.put, zsa, zsz, zss]
           refine wpAnyH_take (i := 5) (oi := _) (v := ?_) rfl (by kernel_rfl) (by kernel_rfl) (by kernel_rfl) (fun _ _ _ h => h) (Or.inl ⟨by rfl, ?_⟩) (by assumption) ?_
           rotate_left 1
           · (intro w hSw; (try dsimp only at hSw); go_simp; try with_reducible rfl)
           try simp (maxSteps := 10000000) only [zga, zgs, zgz, Act.put, zsa, zsz, zss]
           refine wpAnyH_take (i := 6) (oi := _) (v := ?_) rfl (by kernel_rfl) (by kernel_rfl) (by kernel_rfl) (fun _ _ _ h => h) (Or.inl ⟨by rfl, ?_⟩) (by assumption) ?_
           rotate_left 1
           · (intro w hSw; (try dsimp only at hSw); go_simp; try with_reducible rfl)
           try simp (maxSteps := 10000000) only [zga, zgs, zgz, Act.put, zsa, zsz, zss]
           refine wpAnyH_take (i := 7) (oi := _) (v := ?_) rfl (by kernel_rfl) (by kernel_rfl) (by kernel_rfl) (fun _ _ _ h => h) (Or.inl ⟨by rfl, ?_⟩) (by assumption) ?_
           rotate_left 1
           · (intro w hSw; (try dsimp only at hSw); go_simp; try with_reducible rfl)
           try simp (maxSteps := 10000000) only [zga, zgs, zgz, Act.put, zsa, zsz, zss]
           refine wpAnyH_take (i := 8) (oi := _) (v := ?_) rfl (by kernel_rfl) (by kernel_rfl) (by kernel_rfl) (fun _ _ _ h => h) (Or.inl ⟨by rfl, ?_⟩) (by assumption) ?_
           rotate_left 1
           · (intro w hSw; (try dsimp only at hSw); go_simp; try with_reducible rfl)
           try simp (maxSteps := 10000000) only [zga, zgs, zgz, Act.put, zsa, zsz, zss]
           refine wpAnyH_take (i := 9) (oi := _) (v := ?_) rfl (by kernel_rfl) (by kernel_rfl) (by kernel_rfl) (fun _ _ _ h => h) (Or.inl ⟨by rfl, ?_⟩) (by assumption) ?_
           rotate_left 1
           · (intro w hSw; (try dsimp only at hSw); go_simp; try with_reducible rfl)
           try simp (maxSteps := 10000000) only [zga, zgs, zgz, Act.put, zsa, zsz, zss]
           refine wpAnyH_ready (rs := [10]) (by kernel_rfl) (by simp) ?_
           refine AllReadyH.cons rfl (fun K hK => ?_) AllReadyH.nil
           go_simp
           skip
           try go_simp
           refine hK.out _ _ ?_ (fun hHeld => ?_)
           · first | assumption | go_keep | (refine ⟨?_, ?_⟩ <;> (rw [World.cell?_setCell_other _ _ _ _ (by simp; try omega), World.cell?_setCell_other _ _ _ _ (by simp; try omega)]; assumption))
           clear hK K
           try simp (maxSteps := 10000000) only [zga, zgs, zgz, Act.put, zsa, zsz, zss]
           refine wpAnyH_take (i := 11) (oi := _) (v := ?_) rfl (by kernel_rfl) (by kernel_rfl) (by kernel_rfl) (fun _ _ _ h => h) (Or.inl ⟨by rfl, ?_⟩) (by assumption) ?_
           rotate_left 1
           · (intro w hSw; (try dsimp only at hSw); go_simp; try with_reducible rfl)
           try simp (maxSteps := 10000000) only [zga, zgs, zgz, Act.put, zsa, zsz, zss]
           refine wpAnyH_ready (rs := [12]) (by kernel_rfl) (by simp) ?_
           refine AllReadyH.cons rfl (fun K hK => ?_) AllReadyH.nil
           go_simp
           skip
           try go_simp
           refine hK.out _ _ ?_ (fun hHeld => ?_)
           · first | assumption | go_keep | (refine ⟨?_, ?_⟩ <;> (rw [World.cell?_setCell_other _ _ _ _ (by simp; try omega), World.cell?_setCell_other _ _ _ _ (by simp; try omega)]; assumption))
           clear hK K
           try simp (maxSteps := 10000000) only [zga, zgs, zgz, Act.put, zsa, zsz, zss]
           refine wpAnyH_done (by kernel_rfl) ?_ _
           go_wp2
           refine bodyPost_ret (v := .agg #[.bool false, .slice none 0 0]) (by simp [results, Tryz.results67, go_sem, f5, f6]) rfl ⟨_, rfl, Fr.nil _ _, ?_⟩
           exact ((hB0.setCell (p := ⟨w.heap.size + 1, 0, none⟩) (by simp) _).setCell (p := ⟨w.heap.size + 1, 1, none⟩) (by simp) _).drew
         · go_wp2
           refine wp_region_held_drew (S := fun w' => w'.cell? ⟨w.heap.size, 0, none⟩ = some (.bool true) ∧ w'.cell? ⟨w.heap.size, 1, none⟩ = some (.slice none l.length cap)) (by kernel_rfl) (by go_keep) (fun hHeld => ?_)
           refine wpAnyH_take (i := 0) (oi := _) (v := ?_) rfl (by kernel_rfl) (by kernel_rfl) (by kernel_rfl) (fun _ _ _ h => h) (Or.inl ⟨by rfl, ?_⟩) (by assumption) ?_
           rotate_left 1
           · (intro w hSw; (try dsimp only at hSw); go_simp; try with_reducible rfl)
           try simp (maxSteps := 10000000) only [zga, zgs, zgz, Act.put, zsa, zsz, zss]
           refine wpAnyH_take (i := 1) (oi := _) (v := ?_) rfl (by kernel_rfl) (by kernel_rfl) (by kernel_rfl) (fun _ _ _ h => h) (Or.inl ⟨by rfl, ?_⟩) (by assumption) ?_
           rotate_left 1
           · (intro w hSw; (try dsimp only at hSw); go_simp; try with_reducible rfl)
           try simp (maxSteps := 10000000) only [zga, zgs, zgz, Act.put, zsa, zsz, zss]
           refine wpAnyH_take (i := 2) (oi := _) (v := ?_) rfl (by kernel_rfl) (by kernel_rfl) (by kernel_rfl) (fun _ _ _ h => h) (Or.inl ⟨by rfl, ?_⟩) (by assumption) ?_
           rotate_left 1
           · (intro w hSw; (try dsimp only at hSw); go_simp; try with_reducible rfl)
           try simp (maxSteps := 10000000) only [zga, zgs, zgz, Act.put, zsa, zsz, zss]
           refine wpAnyH_take (i := 3) (oi := _) (v := ?_) rfl (by kernel_rfl) (by kernel_rfl) (by kernel_rfl) (fun _ _ _ h => h) (Or.inl ⟨by rfl, ?_⟩) (by assumption) ?_
           rotate_left 1
           · (intro w hSw; (try dsimp only at hSw); go_simp; try with_reducible rfl)
           try simp (maxSteps := 10000000) only [zga, zgs, zgz, Act.put, zsa, zsz, zss]
           refine wpAnyH_take (i := 4) (oi := _) (v := ?_) rfl (by kernel_rfl) (by kernel_rfl) (by kernel_rfl) (fun _ _ _ h => h) (Or.inl ⟨by rfl, ?_⟩) (by assumption) ?_
           rotate_left 1
           · (intro w hSw; (try dsimp only at hSw); go_simp; try with_reducible rfl)
           try simp (maxSteps := 10000000) only [zga, zgs, zgz, Act.put, zsa, zsz, zss]
           refine wpAnyH_take (i := 5) (oi := _) (v := ?_) rfl (by kernel_rfl) (by kernel_rfl) (by kernel_rfl) (fun _ _ _ h => h) (Or.inl ⟨by rfl, ?_⟩) (by assumption) ?_
           rotate_left 1
           · (intro w hSw; (try dsimp only at hSw); go_simp; try with_reducible rfl)
           try simp (maxSteps := 10000000) only [zga, zgs, zgz, Act.put, zsa, zsz, zss]
           refine wpAnyH_take (i := 6) (oi := _) (v := ?_) rfl (by kernel_rfl) (by kernel_rfl) (by kernel_rfl) (fun _ _ _ h => h) (Or.inl ⟨by rfl, ?_⟩) (by assumption) ?_
           rotate_left 1
           · (intro w hSw; (try dsimp only at hSw); go_simp; try with_reducible rfl)
           try simp (maxSteps := 10000000) only [zga, zgs, zgz, Act.put, zsa, zsz, zss]
           refine wpAnyH_take (i := 7) (oi := _) (v := ?_) rfl (by kernel_rfl) (by kernel_rfl) (by kernel_rfl) (fun _ _ _ h => h) (Or.inl ⟨by rfl, ?_⟩) (by assumption) ?_
           rotate_left 1
           · (intro w hSw; (try dsimp only at hSw); go_simp; try with_reducible rfl)
           try simp (maxSteps := 10000000) only [zga, zgs, zgz, Act.put, zsa, zsz, zss]
           refine wpAnyH_take (i := 8) (oi := _) (v := ?_) rfl (by kernel_rfl) (by kernel_rfl) (by kernel_rfl) (fun _ _ _ h => h) (Or.inl ⟨by rfl, ?_⟩) (by assumption) ?_
           rotate_left 1
           · (intro w hSw; (try dsimp only at hSw); go_simp; try with_reducible rfl)
           try simp (maxSteps := 10000000) only [zga, zgs, zgz, Act.put, zsa, zsz, zss]
           refine wpAnyH_take (i := 9) (oi := _) (v := ?_) rfl (by kernel_rfl) (by kernel_rfl) (by kernel_rfl) (fun _ _ _ h => h) (Or.inl ⟨by rfl, ?_⟩) (by assumption) ?_
           rotate_left 1
           · (intro w hSw; (try dsimp only at hSw); go_simp; try with_reducible rfl)
           try simp (maxSteps := 10000000) only [zga, zgs, zgz, Act.put, zsa, zsz, zss]
           refine wpAnyH_ready (rs := [10]) (by kernel_rfl) (by simp) ?_
           refine AllReadyH.cons rfl (fun K hK => ?_) AllReadyH.nil
           go_simp
           skip
           try go_simp
           refine hK.out _ _ ?_ (fun hHeld => ?_)
           · first | assumption | go_keep | (refine ⟨?_, ?_⟩ <;> (rw [World.cell?_setCell_other _ _ _ _ (by simp; try omega), World.cell?_setCell_other _ _ _ _ (by simp; try omega)]; assumption))
           clear hK K
           try simp (maxSteps := 10000000) only [zga, zgs, zgz, Act.put, zsa, zsz, zss]
           refine wpAnyH_take (i := 11) (oi := _) (v := ?_) rfl (by kernel_rfl) (by kernel_rfl) (by kernel_rfl) (fun _ _ _ h => h) (Or.inl ⟨by rfl, ?_⟩) (by assumption) ?_
           rotate_left 1
           · (intro w hSw; (try dsimp only at hSw); go_simp; try with_reducible rfl)
           try simp (maxSteps := 10000000) only [zga, zgs, zgz, Act.put, zsa, zsz, zss]
           refine wpAnyH_ready (rs := [12]) (by kernel_rfl) (by simp) ?_
           refine AllReadyH.cons rfl (fun K hK => ?_) AllReadyH.nil
           go_simp
           skip
           try go_simp
           refine hK.out _ _ ?_ (fun hHeld => ?_)
           · first | assumption | go_keep | (refine ⟨?_, ?_⟩ <;> (rw [World.cell?_setCell_other _ _ _ _ (by simp; try omega), World.cell?_setCell_other _ _ _ _ (by simp; try omega)]; assumption))
           clear hK K
           try simp (maxSteps := 10000000) only [zga, zgs, zgz, Act.put, zsa, zsz, zss]
           refine wpAnyH_done (by kernel_rfl) ?_ _
           go_wp2
           refine bodyPost_ret (v := .agg #[.bool false, .slice none 0 0]) (by simp [results, Tryz.results67, go_sem, f5, f6]) rfl ⟨_, rfl, Fr.nil _ _, ?_⟩
           exact ((hB0.setCell (p := ⟨w.heap.size + 1, 0, none⟩) (by simp) _).setCell (p := ⟨w.heap.size + 1, 1, none⟩) (by simp) _).drew
       | some ad =>
         cases neg
         · go_wp2
           refine wp_region_held_drew (S := fun w' => w'.cell? ⟨w.heap.size, 0, none⟩ = some (.bool false) ∧ w'.cell? ⟨w.heap.size, 1, none⟩ = some (.slice (some ad) l.length cap)) (by kernel_rfl) (by go_keep) (fun hHeld => ?_)
           refine wpAnyH_take (i := 0) (oi := _) (v := ?_) rfl (by kernel_rfl) (by kernel_rfl) (by kernel_rfl) (fun _ _ _ h => h) (Or.inl ⟨by rfl, ?_⟩) (by assumption) ?_
           rotate_left 1
           · (intro w hSw; (try dsimp only at hSw); go_simp; try with_reducible rfl)
           try simp (maxSteps := 10000000) only [zga, zgs, zgz, Act.put, zsa, zsz, zss]
           refine wpAnyH_take (i := 1) (oi := _) (v := ?_) rfl (by kernel_rfl) (by kernel_rfl) (by kernel_rfl) (fun _ _ _ h => h) (Or.inl ⟨by rfl, ?_⟩) (by assumption) ?_
           rotate_left 1
           · (intro w hSw; (try dsimp only at hSw); go_simp; try with_reducible rfl)
           try simp (maxSteps := 10000000) only [zga, zgs, zgz, Act.put, zsa, zsz, zss]
           refine wpAnyH_take (i := 2) (oi := _) (v := ?_) rfl (by kernel_rfl) (by kernel_rfl) (by kernel_rfl) (fun _ _ _ h => h) (Or.inl ⟨by rfl, ?_⟩) (by assumption) ?_
           rotate_left 1
           · (intro w hSw; (try dsimp only at hSw); go_simp; try with_reducible rfl)
           try simp (maxSteps := 10000000) only [zga, zgs, zgz, Act.put, zsa, zsz, zss]
           refine wpAnyH_take (i := 3) (oi := _) (v := undef) rfl (by kernel_rfl) (by kernel_rfl) (by kernel_rfl) (fun _ _ _ h => h) (Or.inr ⟨by rfl, rfl⟩) (by assumption) ?_
           try simp (maxSteps := 10000000) only [zga, zgs, zgz, Act.put, zsa, zsz, zss]
           refine wpAnyH_take (i := 4) (oi := _) (v := undef) rfl (by kernel_rfl) (by kernel_rfl) (by kernel_rfl) (fun _ _ _ h => h) (Or.inr ⟨by rfl, rfl⟩) (by assumption) ?_
           try simp (maxSteps := 10000000) only [zga, zgs, zgz, Act.put, zsa, zsz, zss]
           refine wpAnyH_take (i := 5) (oi := _) (v := ?_) rfl (by kernel_rfl) (by kernel_rfl) (by kernel_rfl) (fun _ _ _ h => h) (Or.inl ⟨by rfl, ?_⟩) (by assumption) ?_
           rotate_left 1
           · (intro w hSw; (try dsimp only at hSw); go_simp; try with_reducible rfl)
           try simp (maxSteps := 10000000) only [zga, zgs, zgz, Act.put, zsa, zsz, zss]
           refine wpAnyH_take (i := 6) (oi := _) (v := ?_) rfl (by kernel_rfl) (by kernel_rfl) (by kernel_rfl) (fun _ _ _ h => h) (Or.inl ⟨by rfl, ?_⟩) (by assumption) ?_
           rotate_left 1
           · (intro w hSw; (try dsimp only at hSw); go_simp; try with_reducible rfl)
           try simp (maxSteps := 10000000) only [zga, zgs, zgz, Act.put, zsa, zsz, zss]
           refine wpAnyH_take (i := 7) (oi := _) (v := ?_) rfl (by kernel_rfl) (by kernel_rfl) (by kernel_rfl) (fun _ _ _ h => h) (Or.inl ⟨by rfl, ?_⟩) (by assumption) ?_
           rotate_left 1
           · (intro w hSw; (try dsimp only at hSw); go_simp; try with_reducible rfl)
           try simp (maxSteps := 10000000) only [zga, zgs, zgz, Act.put, zsa, zsz, zss]
           refine wpAnyH_take (i := 8) (oi := _) (v := ?_) rfl (by kernel_rfl) (by kernel_rfl) (by kernel_rfl) (fun _ _ _ h => h) (Or.inl ⟨by rfl, ?_⟩) (by assumption) ?_
           rotate_left 1
           · (intro w hSw; (try dsimp only at hSw); go_simp; try with_reducible rfl)
           try simp (maxSteps := 10000000) only [zga, zgs, zgz, Act.put, zsa, zsz, zss]
           refine wpAnyH_take (i := 9) (oi := _) (v := ?_) rfl (by kernel_rfl) (by kernel_rfl) (by kernel_rfl) (fun _ _ _ h => h) (Or.inl ⟨by rfl, ?_⟩) (by assumption) ?_
           rotate_left 1
           · (intro w hSw; (try dsimp only at hSw); go_simp; try with_reducible rfl)
           try simp (maxSteps := 10000000) only [zga, zgs, zgz, Act.put, zsa, zsz, zss]
           refine wpAnyH_ready (rs := [10]) (by kernel_rfl) (by simp) ?_
           refine AllReadyH.cons rfl (fun K hK => ?_) AllReadyH.nil
           go_simp
           skip
           try go_simp
           refine hK.out _ _ ?_ (fun hHeld => ?_)
           · first | assumption | go_keep | (refine ⟨?_, ?_⟩ <;> (rw [World.cell?_setCell_other _ _ _ _ (by simp; try omega), World.cell?_setCell_other _ _ _ _ (by simp; try omega)]; assumption))
           clear hK K
           try simp (maxSteps := 10000000) only [zga, zgs, zgz, Act.put, zsa, zsz, zss]
           refine wpAnyH_take (i := 11) (oi := _) (v := ?_) rfl (by kernel_rfl) (by kernel_rfl) (by kernel_rfl) (fun _ _ _ h => h) (Or.inl ⟨by rfl, ?_⟩) (by assumption) ?_
           rotate_left 1
           · (intro w hSw; (try dsimp only at hSw); go_simp; try with_reducible rfl)
           try simp (maxSteps := 10000000) only [zga, zgs, zgz, Act.put, zsa, zsz, zss]
           refine wpAnyH_ready (rs := [12]) (by kernel_rfl) (by simp) ?_
           refine AllReadyH.cons rfl (fun K hK => ?_) AllReadyH.nil
           go_simp
           skip
           try go_simp
           refine hK.out _ _ ?_ (fun hHeld => ?_)
           · first | assumption | go_keep | (refine ⟨?_, ?_⟩ <;> (rw [World.cell?_setCell_other _ _ _ _ (by simp; try omega), World.cell?_setCell_other _ _ _ _ (by simp; try omega)]; assumption))
           clear hK K
           try simp (maxSteps := 10000000) only [zga, zgs, zgz, Act.put, zsa, zsz, zss]
           refine wpAnyH_done (by kernel_rfl) ?_ _
           go_wp2
           refine bodyPost_ret (v := .agg #[.bool false, .slice none 0 0]) (by simp [results, Tryz.results67, go_sem, f5, f6]) rfl ⟨_, rfl, Fr.nil _ _, ?_⟩
           exact ((hB0.setCell (p := ⟨w.heap.size + 1, 0, none⟩) (by simp) _).setCell (p := ⟨w.heap.size + 1, 1, none⟩) (by simp) _).drew
         · go_wp2
           refine wp_region_held_drew (S := fun w' => w'.cell? ⟨w.heap.size, 0, none⟩ = some (.bool true) ∧ w'.cell? ⟨w.heap.size, 1, none⟩ = some (.slice (some ad) l.length cap)) (by kernel_rfl) (by go_keep) (fun hHeld => ?_)
           refine wpAnyH_take (i := 0) (oi := _) (v := ?_) rfl (by kernel_rfl) (by kernel_rfl) (by kernel_rfl) (fun _ _ _ h => h) (Or.inl ⟨by rfl, ?_⟩) (by assumption) ?_
           rotate_left 1
           · (intro w hSw; (try dsimp only at hSw); go_simp; try with_reducible rfl)
           try simp (maxSteps := 10000000) only [zga, zgs, zgz, Act.put, zsa, zsz, zss]
           refine wpAnyH_take (i := 1) (oi := _) (v := ?_) rfl (by kernel_rfl) (by kernel_rfl) (by kernel_rfl) (fun _ _ _ h => h) (Or.inl ⟨by rfl, ?_⟩) (by assumption) ?_
           rotate_left 1
           · (intro w hSw; (try dsimp only at hSw); go_simp; try with_reducible rfl)
           try simp (maxSteps := 10000000) only [zga, zgs, zgz, Act.put, zsa, zsz, zss]
           refine wpAnyH_take (i := 2) (oi := _) (v := ?_) rfl (by kernel_rfl) (by kernel_rfl) (by kernel_rfl) (fun _ _ _ h => h) (Or.inl ⟨by rfl, ?_⟩) (by assumption) ?_
           rotate_left 1
           · (intro w hSw; (try dsimp only at hSw); go_simp; try with_reducible rfl)
           try simp (maxSteps := 10000000) only [zga, zgs, zgz, Act.put, zsa, zsz, zss]
           refine wpAnyH_take (i := 3) (oi := _) (v := ?_) rfl (by kernel_rfl) (by kernel_rfl) (by kernel_rfl) (fun _ _ _ h => h) (Or.inl ⟨by rfl, ?_⟩) (by assumption) ?_
           rotate_left 1
           · (intro w hSw; (try dsimp only at hSw); go_simp; try with_reducible rfl)
           try simp (maxSteps := 10000000) only [zga, zgs, zgz, Act.put, zsa, zsz, zss]
           refine wpAnyH_take (i := 4) (oi := _) (v := ?_) rfl (by kernel_rfl) (by kernel_rfl) (by kernel_rfl) (fun _ _ _ h => h) (Or.inl ⟨by rfl, ?_⟩) (by assumption) ?_
           rotate_left 1
           · (intro w hSw; (try dsimp only at hSw); go_simp; try with_reducible rfl)
           try simp (maxSteps := 10000000) only [zga, zgs, zgz, Act.put, zsa, zsz, zss]
           refine wpAnyH_take (i := 5) (oi := _) (v := ?_) rfl (by kernel_rfl) (by kernel_rfl) (by kernel_rfl) (fun _ _ _ h => h) (Or.inl ⟨by rfl, ?_⟩) (by assumption) ?_
           rotate_left 1
           · (intro w hSw; (try dsimp only at hSw); go_simp; try with_reducible rfl)
           try simp (maxSteps := 10000000) only [zga, zgs, zgz, Act.put, zsa, zsz, zss]
           refine wpAnyH_take (i := 6) (oi := _) (v := ?_) rfl (by kernel_rfl) (by kernel_rfl) (by kernel_rfl) (fun _ _ _ h => h) (Or.inl ⟨by rfl, ?_⟩) (by assumption) ?_
           rotate_left 1
           · (intro w hSw; (try dsimp only at hSw); go_simp; try with_reducible rfl)
           try simp (maxSteps := 10000000) only [zga, zgs, zgz, Act.put, zsa, zsz, zss]
           refine wpAnyH_take (i := 7) (oi := _) (v := ?_) rfl (by kernel_rfl) (by kernel_rfl) (by kernel_rfl) (fun _ _ _ h => h) (Or.inl ⟨by rfl, ?_⟩) (by assumption) ?_
           rotate_left 1
           · (intro w hSw; (try dsimp only at hSw); go_simp; try with_reducible rfl)
           try simp (maxSteps := 10000000) only [zga, zgs, zgz, Act.put, zsa, zsz, zss]
           refine wpAnyH_take (i := 8) (oi := _) (v := ?_) rfl (by kernel_rfl) (by kernel_rfl) (by kernel_rfl) (fun _ _ _ h => h) (Or.inl ⟨by rfl, ?_⟩) (by assumption) ?_
           rotate_left 1
           · (intro w hSw; (try dsimp only at hSw); go_simp; try with_reducible rfl)
           try simp (maxSteps := 10000000) only [zga, zgs, zgz, Act.put, zsa, zsz, zss]
           refine wpAnyH_take (i := 9) (oi := _) (v := ?_) rfl (by kernel_rfl) (by kernel_rfl) (by kernel_rfl) (fun _ _ _ h => h) (Or.inl ⟨by rfl, ?_⟩) (by assumption) ?_
           rotate_left 1
           · (intro w hSw; (try dsimp only at hSw); go_simp; try with_reducible rfl)
           try simp (maxSteps := 10000000) only [zga, zgs, zgz, Act.put, zsa, zsz, zss]
           refine wpAnyH_ready (rs := [10]) (by kernel_rfl) (by simp) ?_
           refine AllReadyH.cons rfl (fun K hK => ?_) AllReadyH.nil
           go_simp
           skip
           try go_simp
           refine hK.out _ _ ?_ (fun hHeld => ?_)
           · first | assumption | go_keep | (refine ⟨?_, ?_⟩ <;> (rw [World.cell?_setCell_other _ _ _ _ (by simp; try omega), World.cell?_setCell_other _ _ _ _ (by simp; try omega)]; assumption))
           clear hK K
           try simp (maxSteps := 10000000) only [zga, zgs, zgz, Act.put, zsa, zsz, zss]
           refine wpAnyH_take (i := 11) (oi := _) (v := ?_) rfl (by kernel_rfl) (by kernel_rfl) (by kernel_rfl) (fun _ _ _ h => h) (Or.inl ⟨by rfl, ?_⟩) (by assumption) ?_
           rotate_left 1
           · (intro w hSw; (try dsimp only at hSw); go_simp; try with_reducible rfl)
           try simp (maxSteps := 10000000) only [zga, zgs, zgz, Act.put, zsa, zsz, zss]
           refine wpAnyH_ready (rs := [12]) (by kernel_rfl) (by simp) ?_
           refine AllReadyH.cons rfl (fun K hK => ?_) AllReadyH.nil
           go_simp
           skip
           try go_simp
           refine hK.out _ _ ?_ (fun hHeld => ?_)
           · first | assumption | go_keep | (refine ⟨?_, ?_⟩ <;> (rw [World.cell?_setCell_other _ _ _ _ (by simp; try omega), World.cell?_setCell_other _ _ _ _ (by simp; try omega)]; assumption))
           clear hK K
           try simp (maxSteps := 10000000) only [zga, zgs, zgz, Act.put, zsa, zsz, zss]
           refine wpAnyH_done (by kernel_rfl) ?_ _
           go_wp2
           refine bodyPost_ret (v := .agg #[.bool false, .slice none 0 0]) (by simp [results, Tryz.results67, go_sem, f5, f6]) rfl ⟨_, rfl, Fr.nil _ _, ?_⟩
           exact ((hB0.setCell (p := ⟨w.heap.size + 1, 0, none⟩) (by simp) _).setCell (p := ⟨w.heap.size + 1, 1, none⟩) (by simp) _).drew
     · obtain ⟨x, hx, hx0⟩ := hgo.resolve_left h0
       obtain ⟨a, rfl, cx⟩ := hLW (k - 1) x hx
       obtain ⟨m, rfl⟩ : ∃ m, k = m + 1 := ⟨k - 1, by omega⟩
       have hlk : (l.take (m + 1)).length = m + 1 := by rw [List.length_take]; omega
       have e1 : (((m + 1 : Nat) : Int) - 1) = (m : Int) := by omega
       have e2 : ((m : Int) + 1 - 1) = (m : Int) := by omega
       have hml : (m : Int) < (l.length : Int) := by omega
       have sl1 : (0 : Int) ≤ (m : Int) + 1 := by omega
       have sl2 : (m : Int) + 1 ≤ (cap : Int) := by omega
       have hpos : (0 : Int) < ((m + 1 : Nat) : Int) := by omega
       rw [Nat.add_sub_cancel] at cx
       have hxz : ((x : Int) == 0) = false := by simp only [beq_eq_false_iff_ne, ne_eq]; omega
       have hGe : G = l.take (m + 1) := by rw [← hG'.out, hgl.out]
       have hbe : bR = neg := by rw [← hbR'.out, hnz.out]; simp
       subst hbe
       have hGe' := hid hGe
       clear hGe
       have hLt := hid (hLW.take (m + 1))
       obtain ⟨i0, hi, hy0, hy1, hy2⟩ := info_parts info32u
       clear hgl hnz hgo hH hx h0 hG' hbR'
       cases bR
       · go_wp2
         refine wp_region_held_drew (S := fun w' => w'.cell? ⟨w.heap.size, 0, none⟩ = some (.bool false) ∧ w'.cell? ⟨w.heap.size, 1, none⟩ = some (.slice (some a) l.length cap)) (by kernel_rfl) (by go_keep) (fun hHeld => ?_)
         refine wpAnyH_take (i := 0) (oi := _) (v := ?_) rfl (by kernel_rfl) (by kernel_rfl) (by kernel_rfl) (fun _ _ _ h => h) (Or.inl ⟨by rfl, ?_⟩) (by assumption) ?_
         rotate_left 1
         · (intro w hSw; (try dsimp only at hSw); go_simp; try with_reducible rfl)
         try simp (maxSteps := 10000000) only [zga, zgs, zgz, Act.put, zsa, zsz, zss]
         refine wpAnyH_take (i := 1) (oi := _) (v := ?_) rfl (by kernel_rfl) (by kernel_rfl) (by kernel_rfl) (fun _ _ _ h => h) (Or.inl ⟨by rfl, ?_⟩) (by assumption) ?_
         rotate_left 1
         · (intro w hSw; (try dsimp only at hSw); go_simp; try with_reducible rfl)
         try simp (maxSteps := 10000000) only [zga, zgs, zgz, Act.put, zsa, zsz, zss]
         refine wpAnyH_take (i := 2) (oi := _) (v := ?_) rfl (by kernel_rfl) (by kernel_rfl) (by kernel_rfl) (fun _ _ _ h => h) (Or.inl ⟨by rfl, ?_⟩) (by assumption) ?_
         rotate_left 1
         · (intro w hSw; (try dsimp only at hSw); go_simp; try with_reducible rfl)
         try simp (maxSteps := 10000000) only [zga, zgs, zgz, Act.put, zsa, zsz, zss]
         refine wpAnyH_take (i := 3) (oi := _) (v := undef) rfl (by kernel_rfl) (by kernel_rfl) (by kernel_rfl) (fun _ _ _ h => h) (Or.inr ⟨by rfl, rfl⟩) (by assumption) ?_
         try simp (maxSteps := 10000000) only [zga, zgs, zgz, Act.put, zsa, zsz, zss]
         refine wpAnyH_take (i := 4) (oi := _) (v := undef) rfl (by kernel_rfl) (by kernel_rfl) (by kernel_rfl) (fun _ _ _ h => h) (Or.inr ⟨by rfl, rfl⟩) (by assumption) ?_
         try simp (maxSteps := 10000000) only [zga, zgs, zgz, Act.put, zsa, zsz, zss]
         refine wpAnyH_take (i := 5) (oi := _) (v := ?_) rfl (by kernel_rfl) (by kernel_rfl) (by kernel_rfl) (fun _ _ _ h => h) (Or.inl ⟨by rfl, ?_⟩) (by assumption) ?_
         rotate_left 1
         · (intro w hSw; (try dsimp only at hSw); go_simp; try with_reducible rfl)
         try simp (maxSteps := 10000000) only [zga, zgs, zgz, Act.put, zsa, zsz, zss]
         refine wpAnyH_take (i := 6) (oi := _) (v := ?_) rfl (by kernel_rfl) (by kernel_rfl) (by kernel_rfl) (fun _ _ _ h => h) (Or.inl ⟨by rfl, ?_⟩) (by assumption) ?_
         rotate_left 1
         · (intro w hSw; (try dsimp only at hSw); go_simp; try with_reducible rfl)
         try simp (maxSteps := 10000000) only [zga, zgs, zgz, Act.put, zsa, zsz, zss]
         refine wpAnyH_take (i := 7) (oi := _) (v := ?_) rfl (by kernel_rfl) (by kernel_rfl) (by kernel_rfl) (fun _ _ _ h => h) (Or.inl ⟨by rfl, ?_⟩) (by assumption) ?_
         rotate_left 1
         · (intro w hSw; (try dsimp only at hSw); go_simp; try with_reducible rfl)
         try simp (maxSteps := 10000000) only [zga, zgs, zgz, Act.put, zsa, zsz, zss]
         refine wpAnyH_take (i := 8) (oi := _) (v := ?_) rfl (by kernel_rfl) (by kernel_rfl) (by kernel_rfl) (fun _ _ _ h => h) (Or.inl ⟨by rfl, ?_⟩) (by assumption) ?_
         rotate_left 1
         · (intro w hSw; (try dsimp only at hSw); go_simp; try with_reducible rfl)
         try simp (maxSteps := 10000000) only [zga, zgs, zgz, Act.put, zsa, zsz, zss]
         refine wpAnyH_take (i := 9) (oi := _) (v := ?_) rfl (by kernel_rfl) (by kernel_rfl) (by kernel_rfl) (fun _ _ _ h => h) (Or.inl ⟨by rfl, ?_⟩) (by assumption) ?_
         rotate_left 1
         · (intro w hSw; (try dsimp only at hSw); go_simp; try with_reducible rfl)
         try simp (maxSteps := 10000000) only [zga, zgs, zgz, Act.put, zsa, zsz, zss]
         refine wpAnyH_ready (rs := [10]) (by kernel_rfl) (by simp) ?_
         refine AllReadyH.cons rfl (fun K hK => ?_) AllReadyH.nil
         refine step_append_lies _ rfl _ _ 23 rfl wr.heap.size 133 i0 (.int .u32 0) 1 4 Tryz.underlying23 hi hy0 hy1 hy2 rfl (by decide) (.slice none 0 0) 0 [] rfl (World.ownsRow_nil _ _ _ _) a (m + 1) cap ((l.take (m + 1)).map fun (x : Nat) => Value.int .u32 (x : Int)) rfl (by rw [List.length_map, hlk]; omega) (fun j u hj => by
           rw [List.getElem?_map] at hj
           cases hx : (l.take (m + 1))[j]? with
           | none => rw [hx] at hj; simp at hj
           | some x =>
             rw [hx] at hj
             simp only [Option.map_some, Option.some.injEq] at hj
             subst hj
             obtain ⟨a', ha, hc⟩ := hLt.out j x hx
             obtain rfl := Option.some.inj ha
             exact hc) (fun u hu => by obtain ⟨x, _, rfl⟩ := List.mem_map.1 hu; rfl) (by omega) (by unfold maxLen; omega) (by omega) (by exact Nat.le_refl _) _ rfl ?_
         intro g c1 w1 hown hgrow hat hlt
         have hB1 : Below wr.heap.size wr w1 := ((Below.refl _ wr).drew).grown hgrow (Nat.le_refl _) (fun k hk => by simp [Value.ownBlock] at hk)
         obtain ⟨g1, g2, g3, g4⟩ := id (kA.below hB1 (by omega))
         obtain ⟨g5, g6, g7, g8⟩ := id (kB.below hB1 (by omega))
         have kB1 := kB.below hB1 (by omega)
         refine hK.out _ _ ?_ (fun hHeld => ?_)
         · first | assumption | go_keep | (refine ⟨?_, ?_⟩ <;> (rw [World.cell?_setCell_other _ _ _ _ (by simp; try omega), World.cell?_setCell_other _ _ _ _ (by simp; try omega)]; assumption))
         clear hK K
         try simp (maxSteps := 10000000) only [zga, zgs, zgz, Act.put, zsa, zsz, zss]
         refine wpAnyH_take (i := 11) (oi := _) (v := ?_) rfl (by kernel_rfl) (by kernel_rfl) (by kernel_rfl) (fun _ _ _ h => h) (Or.inl ⟨by rfl, ?_⟩) (by assumption) ?_
         rotate_left 1
         · (intro w hSw; (try dsimp only at hSw); go_simp; try with_reducible rfl)
         try simp (maxSteps := 10000000) only [zga, zgs, zgz, Act.put, zsa, zsz, zss]
         refine wpAnyH_ready (rs := [12]) (by kernel_rfl) (by simp) ?_
         refine AllReadyH.cons rfl (fun K hK => ?_) AllReadyH.nil
         go_simp
         skip
         try go_simp
         refine hK.out _ _ ?_ (fun hHeld => ?_)
         · first | assumption | go_keep | (refine ⟨?_, ?_⟩ <;> (rw [World.cell?_setCell_other _ _ _ _ (by simp; try omega), World.cell?_setCell_other _ _ _ _ (by simp; try omega)]; assumption))
         clear hK K
         try simp (maxSteps := 10000000) only [zga, zgs, zgz, Act.put, zsa, zsz, zss]
         refine wpAnyH_done (by kernel_rfl) ?_ _
         go_wp2
         have hF : Fr wr.heap.size (.slice (some ⟨g, 0, none⟩) (m + 1) c1) G w1 := by
           rw [hGe'.out]
           unfold Fr
           rw [hlk]
           simpa using hown
         have hF2 := ((hF.set (p := ⟨w.heap.size + 1, 0, none⟩) (by simp; omega) (.bool false)).set (p := ⟨w.heap.size + 1, 1, none⟩) (by simp; omega) (.slice (some ⟨g, 0, none⟩) (m + 1) c1)).mono (B' := w.heap.size) (by omega)
         have hB2 := below_and hB0 (Nat.le_refl _) hB1
         refine bodyPost_ret (v := .agg #[.bool false, .slice (some ⟨g, 0, none⟩) (m + 1) c1]) (by simp [results, Tryz.results67, go_sem, g5, g6]) rfl ⟨_, rfl, hF2, ?_⟩
         exact (hB2.setCell (p := ⟨w.heap.size + 1, 0, none⟩) (by simp) _).setCell (p := ⟨w.heap.size + 1, 1, none⟩) (by simp) _
       · go_wp2
         refine wp_region_held_drew (S := fun w' => w'.cell? ⟨w.heap.size, 0, none⟩ = some (.bool true) ∧ w'.cell? ⟨w.heap.size, 1, none⟩ = some (.slice (some a) l.length cap)) (by kernel_rfl) (by go_keep) (fun hHeld => ?_)
         refine wpAnyH_take (i := 0) (oi := _) (v := ?_) rfl (by kernel_rfl) (by kernel_rfl) (by kernel_rfl) (fun _ _ _ h => h) (Or.inl ⟨by rfl, ?_⟩) (by assumption) ?_
         rotate_left 1
         · (intro w hSw; (try dsimp only at hSw); go_simp; try with_reducible rfl)
         try simp (maxSteps := 10000000) only [zga, zgs, zgz, Act.put, zsa, zsz, zss]
         refine wpAnyH_take (i := 1) (oi := _) (v := ?_) rfl (by kernel_rfl) (by kernel_rfl) (by kernel_rfl) (fun _ _ _ h => h) (Or.inl ⟨by rfl, ?_⟩) (by assumption) ?_
         rotate_left 1
         · (intro w hSw; (try dsimp only at hSw); go_simp; try with_reducible rfl)
         try simp (maxSteps := 10000000) only [zga, zgs, zgz, Act.put, zsa, zsz, zss]
         refine wpAnyH_take (i := 2) (oi := _) (v := ?_) rfl (by kernel_rfl) (by kernel_rfl) (by kernel_rfl) (fun _ _ _ h => h) (Or.inl ⟨by rfl, ?_⟩) (by assumption) ?_
         rotate_left 1
         · (intro w hSw; (try dsimp only at hSw); go_simp; try with_reducible rfl)
         try simp (maxSteps := 10000000) only [zga, zgs, zgz, Act.put, zsa, zsz, zss]
         refine wpAnyH_take (i := 3) (oi := _) (v := ?_) rfl (by kernel_rfl) (by kernel_rfl) (by kernel_rfl) (fun _ _ _ h => h) (Or.inl ⟨by rfl, ?_⟩) (by assumption) ?_
         rotate_left 1
         · (intro w hSw; (try dsimp only at hSw); go_simp; try with_reducible rfl)
         try simp (maxSteps := 10000000) only [zga, zgs, zgz, Act.put, zsa, zsz, zss]
         refine wpAnyH_take (i := 4) (oi := _) (v := ?_) rfl (by kernel_rfl) (by kernel_rfl) (by kernel_rfl) (fun _ _ _ h => h) (Or.inl ⟨by rfl, ?_⟩) (by assumption) ?_
         rotate_left 1
         · (intro w hSw; (try dsimp only at hSw); go_simp; try with_reducible rfl)
         try simp (maxSteps := 10000000) only [zga, zgs, zgz, Act.put, zsa, zsz, zss]
         refine wpAnyH_take (i := 5) (oi := _) (v := ?_) rfl (by kernel_rfl) (by kernel_rfl) (by kernel_rfl) (fun _ _ _ h => h) (Or.inl ⟨by rfl, ?_⟩) (by assumption) ?_
         rotate_left 1
         · (intro w hSw; (try dsimp only at hSw); go_simp; try with_reducible rfl)
         try simp (maxSteps := 10000000) only [zga, zgs, zgz, Act.put, zsa, zsz, zss]
         refine wpAnyH_take (i := 6) (oi := _) (v := ?_) rfl (by kernel_rfl) (by kernel_rfl) (by kernel_rfl) (fun _ _ _ h => h) (Or.inl ⟨by rfl, ?_⟩) (by assumption) ?_
         rotate_left 1
         · (intro w hSw; (try dsimp only at hSw); go_simp; try with_reducible rfl)
         try simp (maxSteps := 10000000) only [zga, zgs, zgz, Act.put, zsa, zsz, zss]
         refine wpAnyH_take (i := 7) (oi := _) (v := ?_) rfl (by kernel_rfl) (by kernel_rfl) (by kernel_rfl) (fun _ _ _ h => h) (Or.inl ⟨by rfl, ?_⟩) (by assumption) ?_
         rotate_left 1
         · (intro w hSw; (try dsimp only at hSw); go_simp; try with_reducible rfl)
         try simp (maxSteps := 10000000) only [zga, zgs, zgz, Act.put, zsa, zsz, zss]
         refine wpAnyH_take (i := 8) (oi := _) (v := ?_) rfl (by kernel_rfl) (by kernel_rfl) (by kernel_rfl) (fun _ _ _ h => h) (Or.inl ⟨by rfl, ?_⟩) (by assumption) ?_
         rotate_left 1
         · (intro w hSw; (try dsimp only at hSw); go_simp; try with_reducible rfl)
         try simp (maxSteps := 10000000) only [zga, zgs, zgz, Act.put, zsa, zsz, zss]
         refine wpAnyH_take (i := 9) (oi := _) (v := ?_) rfl (by kernel_rfl) (by kernel_rfl) (by kernel_rfl) (fun _ _ _ h => h) (Or.inl ⟨by rfl, ?_⟩) (by assumption) ?_
         rotate_left 1
         · (intro w hSw; (try dsimp only at hSw); go_simp; try with_reducible rfl)
         try simp (maxSteps := 10000000) only [zga, zgs, zgz, Act.put, zsa, zsz, zss]
         refine wpAnyH_ready (rs := [10]) (by kernel_rfl) (by simp) ?_
         refine AllReadyH.cons rfl (fun K hK => ?_) AllReadyH.nil
         refine step_append_lies _ rfl _ _ 23 rfl wr.heap.size 133 i0 (.int .u32 0) 1 4 Tryz.underlying23 hi hy0 hy1 hy2 rfl (by decide) (.slice none 0 0) 0 [] rfl (World.ownsRow_nil _ _ _ _) a (m + 1) cap ((l.take (m + 1)).map fun (x : Nat) => Value.int .u32 (x : Int)) rfl (by rw [List.length_map, hlk]; omega) (fun j u hj => by
           rw [List.getElem?_map] at hj
           cases hx : (l.take (m + 1))[j]? with
           | none => rw [hx] at hj; simp at hj
           | some x =>
             rw [hx] at hj
             simp only [Option.map_some, Option.some.injEq] at hj
             subst hj
             obtain ⟨a', ha, hc⟩ := hLt.out j x hx
             obtain rfl := Option.some.inj ha
             exact hc) (fun u hu => by obtain ⟨x, _, rfl⟩ := List.mem_map.1 hu; rfl) (by omega) (by unfold maxLen; omega) (by omega) (by exact Nat.le_refl _) _ rfl ?_
         intro g c1 w1 hown hgrow hat hlt
         have hB1 : Below wr.heap.size wr w1 := ((Below.refl _ wr).drew).grown hgrow (Nat.le_refl _) (fun k hk => by simp [Value.ownBlock] at hk)
         obtain ⟨g1, g2, g3, g4⟩ := id (kA.below hB1 (by omega))
         obtain ⟨g5, g6, g7, g8⟩ := id (kB.below hB1 (by omega))
         have kB1 := kB.below hB1 (by omega)
         refine hK.out _ _ ?_ (fun hHeld => ?_)
         · first | assumption | go_keep | (refine ⟨?_, ?_⟩ <;> (rw [World.cell?_setCell_other _ _ _ _ (by simp; try omega), World.cell?_setCell_other _ _ _ _ (by simp; try omega)]; assumption))
         clear hK K
         try simp (maxSteps := 10000000) only [zga, zgs, zgz, Act.put, zsa, zsz, zss]
         refine wpAnyH_take (i := 11) (oi := _) (v := ?_) rfl (by kernel_rfl) (by kernel_rfl) (by kernel_rfl) (fun _ _ _ h => h) (Or.inl ⟨by rfl, ?_⟩) (by assumption) ?_
         rotate_left 1
         · (intro w hSw; (try dsimp only at hSw); go_simp; try with_reducible rfl)
         try simp (maxSteps := 10000000) only [zga, zgs, zgz, Act.put, zsa, zsz, zss]
         refine wpAnyH_ready (rs := [12]) (by kernel_rfl) (by simp) ?_
         refine AllReadyH.cons rfl (fun K hK => ?_) AllReadyH.nil
         go_simp
         skip
         try go_simp
         refine hK.out _ _ ?_ (fun hHeld => ?_)
         · first | assumption | go_keep | (refine ⟨?_, ?_⟩ <;> (rw [World.cell?_setCell_other _ _ _ _ (by simp; try omega), World.cell?_setCell_other _ _ _ _ (by simp; try omega)]; assumption))
         clear hK K
         try simp (maxSteps := 10000000) only [zga, zgs, zgz, Act.put, zsa, zsz, zss]
         refine wpAnyH_done (by kernel_rfl) ?_ _
         go_wp2
         have hF : Fr wr.heap.size (.slice (some ⟨g, 0, none⟩) (m + 1) c1) G w1 := by
           rw [hGe'.out]
           unfold Fr
           rw [hlk]
           simpa using hown
         have hF2 := ((hF.set (p := ⟨w.heap.size + 1, 0, none⟩) (by simp; omega) (.bool true)).set (p := ⟨w.heap.size + 1, 1, none⟩) (by simp; omega) (.slice (some ⟨g, 0, none⟩) (m + 1) c1)).mono (B' := w.heap.size) (by omega)
         have hB2 := below_and hB0 (Nat.le_refl _) hB1
         refine bodyPost_ret (v := .agg #[.bool true, .slice (some ⟨g, 0, none⟩) (m + 1) c1]) (by simp [results, Tryz.results67, go_sem, g5, g6]) rfl ⟨_, rfl, hF2, ?_⟩
         exact (hB2.setCell (p := ⟨w.heap.size + 1, 0, none⟩) (by simp) _).setCell (p := ⟨w.heap.size + 1, 1, none⟩) (by simp) _
   · have hk0 : k ≠ 0 := fun e => hgo (.inl e)
     obtain ⟨m, rfl⟩ : ∃ m, k = m + 1 := ⟨k - 1, by omega⟩
     obtain ⟨x, hx⟩ : ∃ x, l[m]? = some x := ⟨l[m]'(by omega), by simp⟩
     have hx0 : x = 0 := by
       rcases Nat.eq_zero_or_pos x with h1 | h1
       · exact h1
       · exact absurd (.inr ⟨x, by simpa using hx, by omega⟩) hgo
     subst hx0
     obtain ⟨a, rfl, cx⟩ := hLW m 0 hx
     have e1 : (((m + 1 : Nat) : Int) - 1) = (m : Int) := by omega
     have hml : (m : Int) < (l.length : Int) := by omega
     have hpos : (0 : Int) < ((m + 1 : Nat) : Int) := by omega
     have hx' := hid hx
     clear hgo hx hbR' hG'
     go_wp2
     go_roundw
     case rel =>
       refine ⟨m, by go_num, by omega, by first | rfl | trivial, hid fun j y hj hy => ?_⟩
       by_cases hjm : j = m
       · subst hjm; rw [hx'.out] at hy; injection hy with hy; exact hy.symm
       · exact hH.out j y (by omega) hy
     case measure => simp [intOf]
theorem rnorm_w (v : Value) (Z : Int) (K : Nat) (w : World) (hK : K ≤ 1000000) (h : IsN v Z K w) :
   Calls Tryz.prog 67 #[v] w fun e w' => ∃ sl, e = .returned (.agg #[.bool (decide (Z < 0)), sl]) ∧ Fr w.heap.size sl (glim 4294967296 Z.natAbs) w' ∧ (glim 4294967296 Z.natAbs).length ≤ K ∧ Below w.heap.size w w' := by
 obtain ⟨neg, o, l, c, rfl, hL, hc, hm, hs, hk⟩ := h
 refine (rnorm_raw neg o c l w hm (by omega) hc hL).mono ?_
 rintro e w' ⟨sl, rfl, hF, hB⟩
 have e : Z.natAbs = gval 4294967296 l := by subst hs; unfold sv; cases neg <;> simp
 have e2 : (neg && decide (gval 4294967296 l ≠ 0)) = decide (Z < 0) := by
   subst hs; unfold sv
   cases neg
   · simp
   · by_cases hn : gval 4294967296 l = 0 <;> simp [hn]; omega
 have := gval_len hm
 rw [e2, e]
 exact ⟨sl, rfl, hF, by omega, hB⟩
theorem Fr.isC {B : Nat} {sl : Value} {Z : Int} {K : Nat} {w : World} (h : Fr B sl (glim 4294967296 Z.natAbs) w) (hK : (glim 4294967296 Z.natAbs).length ≤ K) : IsC (.agg #[.bool (decide (Z < 0)), sl]) Z K w := by
 obtain ⟨o, c, rfl, h1, h2, _⟩ := h.parts
 exact ⟨o, c, rfl, h1, h2, hK⟩
open Go.ChangeMaps
theorem ln_le {Z : Int} {k : Nat} (h : Z.natAbs < 4294967296 ^ k) : ln Z ≤ k := (glim_len (by omega) _ _).2 h
theorem mulOk_of {X Y : Int} {a b : Nat} (hx : X.natAbs < 4294967296 ^ a) (hy : Y.natAbs < 4294967296 ^ b) (h : a + b ≤ 128) : mulOk X Y = true := by
 have h1 := ln_le hx
 have h2 := ln_le hy
 have h3 : ln (X * Y) ≤ a + b := ln_le (by
   rw [Int.natAbs_mul, Nat.pow_add]
   exact Nat.mul_lt_mul'' hx hy)
 unfold mulOk; simp; omega
end Go.Proofs.YtlojfmlaookpmaaGreatDoor
namespace Go.Proofs.YtlojfmlaookpmaaGreatDoor
open Go.ChangeShapes Go.WideShapes Go.ChangeAt Go.RowKit
theorem Fr.block {B : Nat} {v : Value} {l : List Nat} {w : World} (h : Fr B v l w) : ∀ q, v.ownBlock = some q → B ≤ q := by
 intro q hq
 rcases h.shape with ⟨rfl, _⟩ | ⟨g, c, rfl⟩
 · simp [Value.ownBlock] at hq
 · simp only [Value.ownBlock, Option.some.injEq] at hq
   have := h.own.1
   omega
theorem gval_take_getD (b : Nat) (l : List Nat) (k : Nat) : gval b (l.take (k + 1)) = gval b (l.take k) + b ^ k * l.getD k 0 := by
 by_cases h : k < l.length
 · have e : l[k]? = some l[k] := by simp [h]
   rw [gval_take_succ b e, List.getD_eq_getElem?_getD, e]; rfl
 · rw [List.take_of_length_le (by omega), List.take_of_length_le (by omega), List.getD_eq_getElem?_getD, List.getElem?_eq_none (by omega)]; simp
theorem Lm.getD {b : Nat} (hb : 0 < b) {l : List Nat} (h : Lm b l) (k : Nat) : l.getD k 0 < b := by
 rw [List.getD_eq_getElem?_getD]
 cases e : l[k]? with
 | none => exact hb
 | some x => exact h.at e
theorem limb_w (o : Option Addr) (c : Nat) (l : List Nat) (i : Nat) (w : World) (m : Lm 4294967296 l) (h : Lies o l w) :
   Calls Tryz.prog 125 #[.slice o l.length c, .int .i64 (i : Int)] w fun e w' => e = .returned (.int .u64 ((l.getD i 0 : Nat) : Int)) ∧ w' = w := by
 by_cases hi : i < l.length
 · have hz : (i : Int) < (l.length : Int) := by omega
   obtain ⟨x, hx⟩ : ∃ x, l[i]? = some x := ⟨l[i], by simp [hi]⟩
   obtain ⟨a, rfl, cx⟩ := h i x hx
   have e : l.getD i 0 = x := by rw [List.getD_eq_getElem?_getD, hx]; rfl
   rw [e]
   have hxm := m.at hx
   have w1 : IntKind.u64.wrap (x : Int) = (x : Int) := by rw [IntKind.wrap_u64]; omega
   go_enter Tryz.func125, Tryz.ntmps125
   go_wp2
   go_ret
   exact ⟨rfl, rfl⟩
 · have hz : ¬ (i : Int) < (l.length : Int) := by omega
   have e : l.getD i 0 = 0 := by rw [List.getD_eq_getElem?_getD, List.getElem?_eq_none (by omega)]; rfl
   rw [e]
   go_enter Tryz.func125, Tryz.ntmps125
   go_wp2
   go_ret
   exact ⟨rfl, rfl⟩
theorem order_w (x y : Int) (w : World) : Calls Tryz.prog 40 #[.int .i64 x, .int .i64 y] w fun e w' => e = .returned (.int .i64 (cmpZ x y)) ∧ w' = w := by
 by_cases h1 : x < y
 · rw [cmpZ_lt h1]
   go_enter Tryz.func40, Tryz.ntmps40
   go_wp2
   go_ret
   exact ⟨rfl, rfl⟩
 · by_cases h2 : y < x
   · rw [cmpZ_gt h2]
     go_enter Tryz.func40, Tryz.ntmps40
     go_wp2
     go_ret
     exact ⟨rfl, rfl⟩
   · have : x = y := by omega
     subst this
     rw [cmpZ_eq]
     go_enter Tryz.func40, Tryz.ntmps40
     go_wp2
     go_ret
     exact ⟨rfl, rfl⟩
set_option maxHeartbeats 1000000 in
theorem mags_w (oa ob : Option Addr) (ca cb : Nat) (m n : Nat) (w : World) (za : (glim 4294967296 m).length ≤ 1000000) (zb : (glim 4294967296 n).length ≤ 1000000) (ha : Lies oa (glim 4294967296 m) w) (hb : Lies ob (glim 4294967296 n) w) :
   Calls Tryz.prog 73 #[.slice oa (glim 4294967296 m).length ca, .slice ob (glim 4294967296 n).length cb] w fun e w' => e = .returned (.int .i64 (cmpZ (m : Int) (n : Int))) ∧ Below w.heap.size w w' := by
 obtain ⟨R, hR⟩ : ∃ R, cmpZ (m : Int) (n : Int) = R := ⟨_, rfl⟩
 rw [hR]
 have hlen' := glim_cmp_len (m := m) (n := n)
 have hat := fun i x y => glim_cmp_at (m := m) (n := n) (i := i) (x := x) (y := y)
 have heq : glim 4294967296 m = glim 4294967296 n → R = 0 := fun e => by
   have := glim_inj (by omega) e
   subst this; rw [← hR, cmpZ_eq]
 rw [hR] at hlen' hat
 have hmX := lm_glim (b := 4294967296) (by omega) m
 have hmY := lm_glim (b := 4294967296) (by omega) n
 generalize glim 4294967296 m = X at *
 generalize glim 4294967296 n = Y at *
 have hlen := hid hlen'
 clear hlen' hR
 by_cases hl : X.length = Y.length
 · have hlz : ((X.length : Int) != (Y.length : Int)) = false := by simp only [bne_eq_false_iff_eq]; omega
   go_enter Tryz.func73, Tryz.ntmps73
   go_wp2
   clear hlz
   go_loopw [5] (fun i wr => ∃ (k : Nat), i = .int .i64 ((k : Int) - 1) ∧ k ≤ X.length ∧ Below w.heap.size w wr ∧ Hid (X.drop k = Y.drop k)) (fun i _ => (intOf i + 1).toNat)
   case atStart => exact ⟨X.length, by go_num, Nat.le_refl _, Below.refl _ _, hid (by rw [List.drop_of_length_le (by omega), List.drop_of_length_le (by omega)])⟩
   case round =>
     obtain ⟨k, rfl, hk, hbw, hH⟩ := hrel
     by_cases h0 : k = 0
     · subst h0
       have hz := heq (by simpa using hH.out)
       go_wp2
       go_ret
       exact ⟨by rw [hz]; rfl, hbw⟩
     · obtain ⟨j, rfl⟩ : ∃ j, k = j + 1 := ⟨k - 1, by omega⟩
       obtain ⟨x, hx⟩ : ∃ x, X[j]? = some x := ⟨X[j]'(by omega), by simp⟩
       obtain ⟨y, hy⟩ : ∃ y, Y[j]? = some y := ⟨Y[j]'(by omega), by simp⟩
       obtain ⟨a, rfl, cx⟩ := (ha.below hbw) j x hx
       obtain ⟨b, rfl, cy⟩ := (hb.below hbw) j y hy
       have e1 : (((j + 1 : Nat) : Int) - 1) = (j : Int) := by omega
       have hjx : (j : Int) < (X.length : Int) := by omega
       have hjy : (j : Int) < (Y.length : Int) := by omega
       rw [e1]
       by_cases hxy : x = y
       · subst hxy
         have hdn : Hid (X.drop j = Y.drop j) := hid (by
           rw [List.drop_eq_getElem_cons (by omega : j < X.length), List.drop_eq_getElem_cons (by omega : j < Y.length), hH.out]
           congr 1
           rw [List.getElem?_eq_getElem (by omega)] at hx hy
           injection hx with hx; injection hy with hy; rw [hx, hy])
         go_wp2
         go_quiet (fail)
         go_wp2
         go_roundw
         case rel => exact ⟨j, by go_num, by omega, below_drewNv hbw _, hdn⟩
         case measure => simp [intOf]
       · have hxz : ((x : Int) != (y : Int)) = true := by simp only [bne_iff_ne, ne_eq]; omega
         have hres := hid (hat j x y hl hH.out hx hy hxy)
         have hxm := hmX.at hx
         have hym := hmY.at hy
         have wx : wrap64 (x : Int) = (x : Int) := by unfold wrap64; omega
         have wy : wrap64 (y : Int) = (y : Int) := by unfold wrap64; omega
         clear hat heq
         go_wp2
         go_quiet (fail)
         have hbw' := below_drewNv hbw nq
         obtain ⟨a', ea, cx'⟩ := (ha.below hbw') j x hx
         obtain ⟨b', eb, cy'⟩ := (hb.below hbw') j y hy
         cases ea; cases eb
         clear cx cy hbw
         generalize wr.drewN nq = wq at *
         go_wp2
         go_quiet ((go_at_call 40; exact Calls.quiet_of_same (order_w _ _ _)))
         go_wp2
         go_ret
         exact ⟨by rw [hres.out]; rfl, below_drewNv hbw' _⟩
 · have hlz : ((X.length : Int) != (Y.length : Int)) = true := by simp only [bne_iff_ne, ne_eq]; omega
   go_enter Tryz.func73, Tryz.ntmps73
   go_wp2_with fail
   refine (order_w _ _ _).mono ?_
   rintro e w1 ⟨rfl, rfl⟩
   go_wp2
   go_ret
   exact ⟨by rw [hlen.out hl]; rfl, Below.refl _ _⟩
theorem Fr.push {B : Nat} {v' : Value} {L : List Nat} {x : Nat} {w : World} (h : w.ownsRow B 133 1 v' (L.length + 1) ((L.map fun (x : Nat) => Value.int .u32 (x : Int)) ++ [.int .u32 (x : Int)])) : Fr B v' (L ++ [x]) w := by
 unfold Fr
 simpa using h
theorem plus_step {b : Nat} {L la lb : List Nat} {cn : Nat} (hH : gval b L + b ^ L.length * cn = gval b (la.take L.length) + gval b (lb.take L.length)) (hb : b = 4294967296) {s : Nat} (hs : la.getD L.length 0 + lb.getD L.length 0 + cn = s) :
   gval b (L ++ [s % 4294967296]) + b ^ (L.length + 1) * (s / 4294967296) = gval b (la.take (L.length + 1)) + gval b (lb.take (L.length + 1)) := by
 subst hb
 rw [gval_append, gval_take_getD, gval_take_getD, pow_step]
 have := sum_step (P := 4294967296 ^ L.length) (S := gval 4294967296 L) (c := cn) (x := la.getD L.length 0) (y := lb.getD L.length 0) (s := s) (by omega) hH
 simpa [gval] using this
set_option maxHeartbeats 1000000 in
theorem plus_w (oa ob : Option Addr) (ca cb : Nat) (la lb : List Nat) (w : World) (ma : Lm 4294967296 la) (mb : Lm 4294967296 lb) (za : la.length ≤ 1000000) (zb : lb.length ≤ 1000000) (ha : Lies oa la w) (hb : Lies ob lb w) :
   Calls Tryz.prog 97 #[.slice oa la.length ca, .slice ob lb.length cb] w fun e w' => ∃ v L, e = .returned v ∧ Fr w.heap.size v L w' ∧ Lm 4294967296 L ∧ gval 4294967296 L = gval 4294967296 la + gval 4294967296 lb ∧ (L.length ≤ la.length + 1 ∨ L.length ≤ lb.length + 1) ∧ 0 < L.length ∧ Below w.heap.size w w' := by
 obtain ⟨i0, hi, hy0, hy1, hy2⟩ := info_parts info32u
 go_enter Tryz.func97, Tryz.ntmps97
 go_wp2
 go_loopw [5, 6, 7] (fun ov cv iv wr => ∃ (L : List Nat) (cn : Nat), cv = .int .u64 (cn : Int) ∧ iv = .int .i64 (L.length : Int) ∧ Fr w.heap.size ov L wr ∧ (L.length ≤ la.length ∨ L.length ≤ lb.length) ∧ cn ≤ 1 ∧ Lm 4294967296 L ∧ Below w.heap.size w wr ∧ Hid (gval 4294967296 L + 4294967296 ^ L.length * cn = gval 4294967296 (la.take L.length) + gval 4294967296 (lb.take L.length))) (fun _ _ iv _ => la.length + lb.length - (intOf iv).toNat)
 case atStart => exact ⟨[], 0, rfl, rfl, Fr.nil _ _, .inl (by simp), by omega, Lm.nil _, Below.refl _ _, hid (by simp [gval])⟩
 case round =>
   obtain ⟨L, cn, rfl, rfl, hF, hk, hcn, hLm, hbw, hH⟩ := hrel
   have hsz := hbw.size
   by_cases hgo : L.length < la.length ∨ L.length < lb.length
   · obtain ⟨x, hx⟩ : ∃ x, la.getD L.length 0 = x := ⟨_, rfl⟩
     obtain ⟨y, hy⟩ : ∃ y, lb.getD L.length 0 = y := ⟨_, rfl⟩
     have hxm : x < 4294967296 := by rw [← hx]; exact ma.getD (by omega) _
     have hym : y < 4294967296 := by rw [← hy]; exact mb.getD (by omega) _
     obtain ⟨t, ht⟩ : ∃ t, x + y = t := ⟨_, rfl⟩
     obtain ⟨s, hs⟩ : ∃ s, t + cn = s := ⟨_, rfl⟩
     have w1 : IntKind.u64.wrap ((x : Int) + (y : Int)) = (t : Int) := by rw [IntKind.wrap_u64]; omega
     have w2 : IntKind.u64.wrap ((t : Int) + (cn : Int)) = (s : Int) := by rw [IntKind.wrap_u64]; omega
     have hstep := plus_step hH.out rfl (s := s) (by rw [hx, hy]; omega)
     obtain ⟨r, hr⟩ : ∃ r, s % 4294967296 = r := ⟨_, rfl⟩
     obtain ⟨q, hq⟩ : ∃ q, s / 4294967296 = q := ⟨_, rfl⟩
     rw [hr, hq] at hstep
     have hstep' := hid hstep
     have w3 : IntKind.u32.wrap (s : Int) = (r : Int) := by rw [IntKind.wrap_u32]; omega
     have w4 : (s : Int) / 4294967296 = (q : Int) := by omega
     have hsm : q ≤ 1 := by omega
     have hrm : r < 4294967296 := by omega
     clear hr hq hstep
     have hk' : L.length + 1 ≤ la.length ∨ L.length + 1 ≤ lb.length := by omega
     have hla := ha.below hbw
     have hlb := hb.below hbw
     have hx' := hid hx
     have hy' := hid hy
     clear ht hs hx hy
     by_cases h1 : L.length < la.length
     · have h1z : (L.length : Int) < (la.length : Int) := by omega
       go_wp2_with fail
       refine (limb_w _ _ _ _ _ ma hla).mono ?_
       rintro e wr ⟨rfl, rfl⟩
       rw [hx'.out]
       go_wp2_with fail
       refine (limb_w _ _ _ _ _ mb hlb).mono ?_
       rintro e wr ⟨rfl, rfl⟩
       rw [hy'.out]
       go_wp2_with (at_builtin; refine wpList_append_own _ rfl _ _ 23 rfl w.heap.size 133 i0 (.int .u32 0) 1 4 Tryz.underlying23 hi hy0 hy1 hy2 rfl (by decide) _ _ _ rfl (World.ownsRow.alloc hF _) ⟨wr.heap.size, 0, none⟩ 1 1 [.int .u32 (r : Int)] rfl rfl ?c1 ?c2 ?c3 ?c4 ?c5 ?_)
       first
         | (case c1 =>
             intro j u hj
             match j, hj with
             | 0, hj => simp at hj; subst hj; simp [Addr.add]
             | j + 1, hj => simp at hj)
         | skip
       case c2 => first | rfl | (intro u hu; simp at hu; subst hu; rfl)
       case c3 => unfold maxLen; omega
       case c4 => omega
       case c5 => first | omega | (simp; omega)
       intro v' w2 hown' hgrow _
       go_wp2
       go_roundw
       case rel =>
         refine ⟨L ++ [r], q, rfl, by simp, Fr.push hown', by simpa using hk', hsm, hLm.append (Lm.cons hrm (Lm.nil _)), (hbw.alloc hsz _).grown hgrow (by simp; omega) hF.block, hid ?_⟩
         rw [List.length_append]
         exact hstep'.out
       case measure => simp [intOf]; omega
     · have h1z : ¬ (L.length : Int) < (la.length : Int) := by omega
       have h2z : (L.length : Int) < (lb.length : Int) := by omega
       go_wp2_with fail
       refine (limb_w _ _ _ _ _ ma hla).mono ?_
       rintro e wr ⟨rfl, rfl⟩
       rw [hx'.out]
       go_wp2_with fail
       refine (limb_w _ _ _ _ _ mb hlb).mono ?_
       rintro e wr ⟨rfl, rfl⟩
       rw [hy'.out]
       go_wp2_with (at_builtin; refine wpList_append_own _ rfl _ _ 23 rfl w.heap.size 133 i0 (.int .u32 0) 1 4 Tryz.underlying23 hi hy0 hy1 hy2 rfl (by decide) _ _ _ rfl (World.ownsRow.alloc hF _) ⟨wr.heap.size, 0, none⟩ 1 1 [.int .u32 (r : Int)] rfl rfl ?c1 ?c2 ?c3 ?c4 ?c5 ?_)
       first
         | (case c1 =>
             intro j u hj
             match j, hj with
             | 0, hj => simp at hj; subst hj; simp [Addr.add]
             | j + 1, hj => simp at hj)
         | skip
       case c2 => first | rfl | (intro u hu; simp at hu; subst hu; rfl)
       case c3 => unfold maxLen; omega
       case c4 => omega
       case c5 => first | omega | (simp; omega)
       intro v' w2 hown' hgrow _
       go_wp2
       go_roundw
       case rel =>
         refine ⟨L ++ [r], q, rfl, by simp, Fr.push hown', by simpa using hk', hsm, hLm.append (Lm.cons hrm (Lm.nil _)), (hbw.alloc hsz _).grown hgrow (by simp; omega) hF.block, hid ?_⟩
         rw [List.length_append]
         exact hstep'.out
       case measure => simp [intOf]; omega
   · have h1z : ¬ (L.length : Int) < (la.length : Int) := by omega
     have h2z : ¬ (L.length : Int) < (lb.length : Int) := by omega
     have w3 : IntKind.u32.wrap (cn : Int) = (cn : Int) := by rw [IntKind.wrap_u32]; omega
     have hh := hH.out
     rw [List.take_of_length_le (by omega), List.take_of_length_le (by omega)] at hh
     have hh' := hid hh
     clear hh
     go_wp2_with (at_builtin; refine wpList_append_own _ rfl _ _ 23 rfl w.heap.size 133 i0 (.int .u32 0) 1 4 Tryz.underlying23 hi hy0 hy1 hy2 rfl (by decide) _ _ _ rfl (World.ownsRow.alloc hF _) ⟨wr.heap.size, 0, none⟩ 1 1 [.int .u32 (cn : Int)] rfl rfl ?c1 ?c2 ?c3 ?c4 ?c5 ?_)
     first
       | (case c1 =>
           intro j u hj
           match j, hj with
           | 0, hj => simp at hj; subst hj; simp [Addr.add]
           | j + 1, hj => simp at hj)
       | skip
     case c2 => first | rfl | (intro u hu; simp at hu; subst hu; rfl)
     case c3 => unfold maxLen; omega
     case c4 => omega
     case c5 => first | omega | (simp; omega)
     intro v' w2 hown' hgrow _
     go_wp2
     go_ret
     refine ⟨v', L ++ [cn], rfl, Fr.push hown', hLm.append (Lm.cons (by omega) (Lm.nil _)), ?_, by simp; omega, by simp, (hbw.alloc hsz _).grown hgrow (by simp; omega) hF.block⟩
     rw [gval_append, ← hh'.out]; simp [gval]
end Go.Proofs.YtlojfmlaookpmaaGreatDoor
