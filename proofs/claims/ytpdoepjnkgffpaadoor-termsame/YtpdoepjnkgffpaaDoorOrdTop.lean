/- Compare of package order. -/
import Derived.Test.YtpdoepjnkgffpaaDoorOrdCmp
import Derived.Laws.EntriesVeiled
namespace Go.Proofs.YtpdoepjnkgffpaaDoor
open Go.ChangeShapes Go.WideShapes Go.ChangeAt Go.ChangeMaps Go.RowKit Go.Shelf
set_option linter.unusedSimpArgs false
set_option linter.unusedVariables false
set_option maxRecDepth 2000
set_option maxHeartbeats 2000000 in
set_option maxRecDepth 8000 in
theorem newWalk_w (w : World) : Calls Tryd.prog 26 #[] w fun e w' => e = .returned (.pointer (some ⟨w.heap.size, 0, none⟩)) ∧ WkE w.heap.size nilS w' ∧ Below w.heap.size w w' := by
  go_enter Tryd.func26, Tryd.ntmps26
  go_wp2
  go_ret
  refine ⟨rfl, ?_, (Below.refl _ w).alloc (Nat.le_refl _) _⟩
  exact WkO.e (heap_alloc_new w _)
set_option maxHeartbeats 4000000 in
set_option maxRecDepth 8000 in
theorem Compare_o (A U : Tm) (va vb : Value) (w : World) (hA : TV (Low w) w A va) (hU : TV (Low w) w U vb) (hwA : wfT A) (hwU : wfT U) (hd : dep A ≤ 1000000) (hT : Tabs w) :
    Calls Tryd.prog 11 #[va, vb] w fun e w' => e = .returned (.int .i64 (cT A U)) ∧ Below w.heap.size w w' := by
  have HA := hid hA
  have HU := hid hU
  obtain ⟨A, rfl⟩ : ∃ A', A = A' := ⟨_, rfl⟩
  have hAe : ∃ k neg d nm n l b od cd ol cl ob cb, A = Tm.mk k neg d nm n l b ∧ va = tmV k neg (.slice od d.length cd) nm n (.slice ol l.length cl) (.slice ob b.length cb) := by
    cases A with | mk k neg d nm n l b =>
    unfold TV at hA
    obtain ⟨od, cd, ol, cl, ob, cb, rfl, _⟩ := hA
    exact ⟨_, _, _, _, _, _, _, _, _, _, _, _, _, rfl, rfl⟩
  have hUe : ∃ k neg d nm n l b od cd ol cl ob cb, U = Tm.mk k neg d nm n l b ∧ vb = tmV k neg (.slice od d.length cd) nm n (.slice ol l.length cl) (.slice ob b.length cb) := by
    cases U with | mk k neg d nm n l b =>
    unfold TV at hU
    obtain ⟨od, cd, ol, cl, ob, cb, rfl, _⟩ := hU
    exact ⟨_, _, _, _, _, _, _, _, _, _, _, _, _, rfl, rfl⟩
  clear hA hU
  obtain ⟨k, neg, d, nm, n, l, b, od, cd, ol, cl, ob, cb, eA, rfl⟩ := hAe
  obtain ⟨k', neg', d', nm', n', l', b', od', cd', ol', cl', ob', cb', eU, rfl⟩ := hUe
  clear eA eU
  obtain ⟨kA, kB, hB0, hz0⟩ := bx2 w (.int .i64 k) (.bool neg) (.slice od d.length cd) (.string nm) (.int .i64 n) (.slice ol l.length cl) (.slice ob b.length cb) (.int .i64 k') (.bool neg') (.slice od' d'.length cd') (.string nm') (.int .i64 n') (.slice ol' l'.length cl') (.slice ob' b'.length cb') 31 31
  go_enter Tryd.func11, Tryd.ntmps11
  go_wp2_with fail
  generalize ((w.alloc (.cells #[.int .i64 k, .bool neg, .slice od d.length cd, .string nm, .int .i64 n, .slice ol l.length cl, .slice ob b.length cb] 31)).alloc (.cells #[.int .i64 k', .bool neg', .slice od' d'.length cd', .string nm', .int .i64 n', .slice ol' l'.length cl', .slice ob' b'.length cb'] 31)) = W0 at *
  have dW : Below W0.heap.size W0 W0.drew := (Below.refl _ W0).drew
  have hB1 := below_and hB0 (Nat.le_refl _) dW
  have kA1 := kA.below dW
  have kB1 := kB.below dW
  have hTV := hT.below hB1
  have hGB : 0 < W0.drew.heap.size ∧ 1 < W0.drew.heap.size := hTV.lt
  clear hB0 hz0 kA kB dW
  have hS : Hid (∀ w', Below W0.drew.heap.size W0.drew w' → (w'.cell? ⟨w.heap.size, 0, none⟩ = some (.int .i64 k) ∧ w'.cell? ⟨w.heap.size, 1, none⟩ = some (.bool neg) ∧ w'.cell? ⟨w.heap.size, 2, none⟩ = some (.slice od d.length cd) ∧ w'.cell? ⟨w.heap.size, 3, none⟩ = some (.string nm) ∧ w'.cell? ⟨w.heap.size, 4, none⟩ = some (.int .i64 n) ∧ w'.cell? ⟨w.heap.size, 5, none⟩ = some (.slice ol l.length cl) ∧ w'.cell? ⟨w.heap.size, 6, none⟩ = some (.slice ob b.length cb) ∧ w'.cell? ⟨w.heap.size + 1, 0, none⟩ = some (.int .i64 k') ∧ w'.cell? ⟨w.heap.size + 1, 1, none⟩ = some (.bool neg') ∧ w'.cell? ⟨w.heap.size + 1, 2, none⟩ = some (.slice od' d'.length cd') ∧ w'.cell? ⟨w.heap.size + 1, 3, none⟩ = some (.string nm') ∧ w'.cell? ⟨w.heap.size + 1, 4, none⟩ = some (.int .i64 n') ∧ w'.cell? ⟨w.heap.size + 1, 5, none⟩ = some (.slice ol' l'.length cl') ∧ w'.cell? ⟨w.heap.size + 1, 6, none⟩ = some (.slice ob' b'.length cb'))) := hid (fun w' hb => by
    obtain ⟨t0, t1, t2, t3, t4, t5, t6⟩ := (kA1.below hb).res
    obtain ⟨u0, u1, u2, u3, u4, u5, u6⟩ := (kB1.below hb).res
    exact ⟨t0, t1, t2, t3, t4, t5, t6, u0, u1, u2, u3, u4, u5, u6⟩)
  have hs1 := hB1.size
  have hvA := hid (fun w' (hb : Below W0.drew.heap.size W0.drew w') => TV.mono (Z' := fun k => k < W0.drew.heap.size) (fun k _ h => Nat.lt_of_lt_of_le h hs1) _ _ (TV.zs (fun k hk => (below_and hB1 (Nat.le_refl _) hb).block k hk) _ _ HA.out))
  have hvU := hid (fun w' (hb : Below W0.drew.heap.size W0.drew w') => TV.mono (Z' := fun k => k < W0.drew.heap.size) (fun k _ h => Nat.lt_of_lt_of_le h hs1) _ _ (TV.zs (fun k hk => (below_and hB1 (Nat.le_refl _) hb).block k hk) _ _ HU.out))
  have Hw := hid (And.intro hwA (And.intro hwU (And.intro hd (And.intro hTV hGB))))
  clear kA1 kB1 hwA hwU hd hTV hGB hT HA HU
  have hr0 : Below W0.drew.heap.size W0.drew W0.drew := Below.refl _ _
  refine wp_region_held_drew (S := fun w' => w'.cell? ⟨w.heap.size, 0, none⟩ = some (.int .i64 k) ∧ w'.cell? ⟨w.heap.size, 1, none⟩ = some (.bool neg) ∧ w'.cell? ⟨w.heap.size, 2, none⟩ = some (.slice od d.length cd) ∧ w'.cell? ⟨w.heap.size, 3, none⟩ = some (.string nm) ∧ w'.cell? ⟨w.heap.size, 4, none⟩ = some (.int .i64 n) ∧ w'.cell? ⟨w.heap.size, 5, none⟩ = some (.slice ol l.length cl) ∧ w'.cell? ⟨w.heap.size, 6, none⟩ = some (.slice ob b.length cb) ∧ w'.cell? ⟨w.heap.size + 1, 0, none⟩ = some (.int .i64 k') ∧ w'.cell? ⟨w.heap.size + 1, 1, none⟩ = some (.bool neg') ∧ w'.cell? ⟨w.heap.size + 1, 2, none⟩ = some (.slice od' d'.length cd') ∧ w'.cell? ⟨w.heap.size + 1, 3, none⟩ = some (.string nm') ∧ w'.cell? ⟨w.heap.size + 1, 4, none⟩ = some (.int .i64 n') ∧ w'.cell? ⟨w.heap.size + 1, 5, none⟩ = some (.slice ol' l'.length cl') ∧ w'.cell? ⟨w.heap.size + 1, 6, none⟩ = some (.slice ob' b'.length cb')) (by kernel_rfl) (by exact hS.out _ hr0) (fun hHeld => ?_)
  generalize W0.drew = V at *
  refine wpAnyH_take (i := 1) (oi := _) (v := ?_) rfl (by kernel_rfl) (by kernel_rfl) (by kernel_rfl) (fun _ _ _ h => h) (Or.inl ⟨by rfl, ?_⟩) (by assumption) ?_
  rotate_left 1
  · (intro w hSw; (try dsimp only at hSw); go_simp; try with_reducible rfl)
  try simp (maxSteps := 10000000) only [List.getElem_toArray, List.getElem_cons_succ, List.getElem_cons_zero, Act.put, List.setIfInBounds_toArray, List.set_cons_zero, List.set_cons_succ]
  refine wpAnyH_take (i := 2) (oi := _) (v := ?_) rfl (by kernel_rfl) (by kernel_rfl) (by kernel_rfl) (fun _ _ _ h => h) (Or.inl ⟨by rfl, ?_⟩) (by assumption) ?_
  rotate_left 1
  · (intro w hSw; (try dsimp only at hSw); go_simp; try with_reducible rfl)
  try simp (maxSteps := 10000000) only [List.getElem_toArray, List.getElem_cons_succ, List.getElem_cons_zero, Act.put, List.setIfInBounds_toArray, List.set_cons_zero, List.set_cons_succ]
  refine wpAnyH_ready (rs := [0]) (by kernel_rfl) (by simp) ?_
  refine AllReadyH.cons rfl (fun K hK => ?_) AllReadyH.nil
  go_simp
  refine (newWalk_w _).mono ?_
  rintro e w1 ⟨rfl, hE1, b1⟩
  have c1 : Below V.heap.size V w1 := b1
  try go_simp
  refine hK.out _ _ ?_ (fun hHeld => ?_)
  · exact hS.out _ (by assumption)
  clear hK K
  try simp (maxSteps := 10000000) only [List.getElem_toArray, List.getElem_cons_succ, List.getElem_cons_zero, Act.put, List.setIfInBounds_toArray, List.set_cons_zero, List.set_cons_succ]
  refine wpAnyH_ready (rs := [3]) (by kernel_rfl) (by simp) ?_
  refine AllReadyH.cons rfl (fun K hK => ?_) AllReadyH.nil
  go_simp
  refine (wcompare_w V.heap.size V.heap.size A U _ _ nilS 0 [] _ (Nat.le_refl _) hE1 (World.ownsRow_nil _ _ _ _) (hvA.out _ c1) (hvU.out _ c1) Hw.out.1 Hw.out.2.1 Hw.out.2.2.1 (Hw.out.2.2.2.1.below c1) Hw.out.2.2.2.2).mono ?_
  rintro e w2 ⟨rfl, _, k2⟩
  have c2 : Below V.heap.size V w2 := c1.trans (k2.low c1.size)
  try go_simp
  refine hK.out _ _ ?_ (fun hHeld => ?_)
  · exact hS.out _ (by assumption)
  clear hK K
  try simp (maxSteps := 10000000) only [List.getElem_toArray, List.getElem_cons_succ, List.getElem_cons_zero, Act.put, List.setIfInBounds_toArray, List.set_cons_zero, List.set_cons_succ]
  refine wpAnyH_take (i := 4) (oi := _) (v := ?_) rfl (by kernel_rfl) (by kernel_rfl) (by kernel_rfl) (fun _ _ _ h => h) (Or.inl ⟨by rfl, ?_⟩) (by assumption) ?_
  rotate_left 1
  · (intro w hSw; (try dsimp only at hSw); go_simp; try with_reducible rfl)
  try simp (maxSteps := 10000000) only [List.getElem_toArray, List.getElem_cons_succ, List.getElem_cons_zero, Act.put, List.setIfInBounds_toArray, List.set_cons_zero, List.set_cons_succ]
  refine wpAnyH_done (by kernel_rfl) ?_ _
  go_wp2
  go_ret
  exact ⟨rfl, below_and' hB1 hs1 c2⟩
end Go.Proofs.YtpdoepjnkgffpaaDoor
