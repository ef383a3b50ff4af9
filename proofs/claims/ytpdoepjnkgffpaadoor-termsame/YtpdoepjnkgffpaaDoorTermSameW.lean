/- TermSame, walked. -/
import Derived.Test.YtpdoepjnkgffpaaDoorSameL
import Derived.Test.YtpdoepjnkgffpaaDoorOrdLaid
import Derived.Test.YtpdoepjnkgffpaaDoorTermRMayAll
import Derived.Test.YtpdoepjnkgffpaaDoorTermRoomOk
namespace Go.Proofs.YtpdoepjnkgffpaaDoor.termSame
open Go.ChangeShapes Go.WideShapes Go.ChangeAt Go.ChangeMaps Go.RowKit Go.Shelf
set_option linter.unusedSimpArgs false
set_option linter.unusedVariables false
set_option maxRecDepth 2000
set_option maxHeartbeats 8000000 in
set_option maxRecDepth 8000 in
theorem walk {H : Type} (enc : TypeId × Value → H) (base : Nat) (w : World) (v0 v1 : Value) (d0 d1 : DataW H) (p0 p1 : List MemPlace)
    (o0 : Value.okWide Tryd.prog w .any base 31 v0) (h0 : DataW.Trod enc Tryd.prog w 0 (fun _ => true) true 31 v0 d0 p0)
    (o1 : Value.okWide Tryd.prog w .any base 31 v1) (h1 : DataW.Trod enc Tryd.prog w 0 (fun _ => true) true 31 v1 d1 p1)
    (hT : Tabs w) :
    Calls Tryd.prog 6 #[v0, v1] w fun e w' => e = .returned (.bool true) ∧ Below w.heap.size w w' := by
  obtain ⟨A, hA0⟩ := open_term o0 h0
  obtain ⟨U, hU0⟩ := open_term o1 h1
  clear o0 h0 o1 h1
  obtain ⟨ak, aneg, aod, ald, acd, anm, an, aol, all, acl, aob, alb, acb, rfl⟩ := hA0.form
  obtain ⟨uk, uneg, uod, uld, ucd, unm, un, uol, ull, ucl, uob, ulb, ucb, rfl⟩ := hU0.form
  obtain ⟨kA, kB, hB0, hz0⟩ := bx2 w (.int .i64 ak) (.bool aneg) (.slice aod ald acd) (.string anm) (.int .i64 an) (.slice aol all acl) (.slice aob alb acb) (.int .i64 uk) (.bool uneg) (.slice uod uld ucd) (.string unm) (.int .i64 un) (.slice uol ull ucl) (.slice uob ulb ucb) 31 31
  go_enter Tryd.func6, Tryd.ntmps6
  go_wp2_with fail
  generalize ((w.alloc (.cells #[.int .i64 ak, .bool aneg, .slice aod ald acd, .string anm, .int .i64 an, .slice aol all acl, .slice aob alb acb] 31)).alloc (.cells #[.int .i64 uk, .bool uneg, .slice uod uld ucd, .string unm, .int .i64 un, .slice uol ull ucl, .slice uob ulb ucb] 31)) = W0 at *
  refine (awake_w _ (hT.below hB0)).mono ?_
  rintro e w1 ⟨rfl, b1⟩
  have B1 := below_and hB0 (Nat.le_refl _) b1
  have kA1 := kA.below b1
  have kB1 := kB.below b1
  have HzW := hid (show w.heap.size + 2 ≤ w1.heap.size by have := b1.size; omega)
  clear kA kB hB0 b1 hz0
  have hTA := hid (fun w' (hb : Below w.heap.size w w') => tv_below hA0 hb)
  have hTU := hid (fun w' (hb : Below w.heap.size w w') => tv_below hU0 hb)
  have hTa := hid (fun w' (hb : Below w.heap.size w w') => hT.below hb)
  clear hA0 hU0 hT
  obtain ⟨x0, x1, x2, x3, x4, x5, x6⟩ := kA1.res
  go_wp2_with fail
  clear x0 x1 x2 x3 x4 x5 x6
  refine (Room_w 60 (by omega) (tsz A) A _ 10 _ (Nat.le_refl _) (by omega) (by omega) (hTA.out _ B1)).mono ?_
  rintro e w2 ⟨rfl, b2⟩
  have B2 := below_and B1 (Nat.le_refl _) b2
  have kA2 := kA1.below b2
  have kB2 := kB1.below b2
  clear kA1 kB1 B1
  obtain ⟨b1', hb1⟩ : ∃ b, roomB 60 10 A = b := ⟨_, rfl⟩
  rw [hb1]
  cases b1' with
  | false =>
    clear hb1
    go_wp2
    go_ret
    exact ⟨rfl, B2⟩
  | true =>
  have hoA := room_ok (by omega) A _ 10 (hTA.out _ B2) hb1
  obtain ⟨y0, y1, y2, y3, y4, y5, y6⟩ := kB2.res
  go_wp2_with fail
  clear y0 y1 y2 y3 y4 y5 y6
  refine (Room_w 60 (by omega) (tsz U) U _ 10 _ (Nat.le_refl _) (by omega) (by omega) (hTU.out _ B2)).mono ?_
  rintro e w3 ⟨rfl, b3⟩
  have B3 := below_and B2 (Nat.le_refl _) b3
  have kA3 := kA2.below b3
  have kB3 := kB2.below b3
  clear kA2 kB2 B2
  obtain ⟨b2', hb2⟩ : ∃ b, roomB 60 10 U = b := ⟨_, rfl⟩
  rw [hb2]
  cases b2' with
  | false =>
    clear hb2
    go_wp2
    go_ret
    exact ⟨rfl, B3⟩
  | true =>
  have hoU := room_ok (by omega) U _ 10 (hTU.out _ B3) hb2
  obtain ⟨x0, x1, x2, x3, x4, x5, x6⟩ := kA3.res
  go_wp2_with fail
  clear x0 x1 x2 x3 x4 x5 x6
  refine (rMay_w A _ _ hoA.1 (hTA.out _ B3) (hTa.out _ B3)).mono ?_
  rintro e w4 ⟨rfl, b4⟩
  have B4 := below_and B3 (Nat.le_refl _) b4
  have kA4 := kA3.below b4
  have kB4 := kB3.below b4
  clear kA3 kB3 B3
  obtain ⟨b3', hb3⟩ : ∃ b, mayB A = b := ⟨_, rfl⟩
  rw [hb3]
  cases b3' with
  | false =>
    clear hb3
    go_wp2
    go_ret
    exact ⟨rfl, B4⟩
  | true =>
  obtain ⟨y0, y1, y2, y3, y4, y5, y6⟩ := kB4.res
  go_wp2_with fail
  clear y0 y1 y2 y3 y4 y5 y6
  refine (rMay_w U _ _ hoU.1 (hTU.out _ B4) (hTa.out _ B4)).mono ?_
  rintro e w5 ⟨rfl, b5⟩
  have B5 := below_and B4 (Nat.le_refl _) b5
  have kA5 := kA4.below b5
  have kB5 := kB4.below b5
  have hs5 : w.heap.size + 2 ≤ w5.heap.size := by have := HzW.out; have := b2.size; have := b3.size; have := b4.size; have := b5.size; omega
  clear kA4 kB4 B4 HzW
  obtain ⟨b4', hb4⟩ : ∃ b, mayB U = b := ⟨_, rfl⟩
  rw [hb4]
  cases b4' with
  | false =>
    clear hb4
    go_wp2
    go_ret
    exact ⟨rfl, B5⟩
  | true =>
  obtain ⟨hpA, hfA⟩ := may_parts hb3
  obtain ⟨hpU, hfU⟩ := may_parts hb4
  have HA := hid (show wfT A ∧ (∀ p ∈ parts A, p.ok1) ∧ dep A ≤ 1000000 ∧ (parts A).length ≤ 500000 ∧ (∀ p ∈ parts A, p.ok1 ∧ fairB p = true) ∧ (∀ p ∈ parts A, fairB p = true) from ⟨fun p hp => okO_fair p (hoA.1 p hp) (hfA p hp), hoA.1, by have := hoA.2; omega, by omega, fun p hp => ⟨hoA.1 p hp, hfA p hp⟩, hfA⟩)
  have HU := hid (show wfT U ∧ (∀ p ∈ parts U, p.ok1) from ⟨fun p hp => okO_fair p (hoU.1 p hp) (hfU p hp), hoU.1⟩)
  have hself := hid (show (cT A A == 0) = true by rw [cT_self A HA.out.1]; rfl)
  clear hb1 hb2 hb3 hb4 hoA hoU hpA hpU hfA hfU b2 b3 b4 b5
  obtain ⟨x0, x1, x2, x3, x4, x5, x6⟩ := kA5.res
  go_wp2_with fail
  clear x0 x1 x2 x3 x4 x5 x6
  refine (Copy_w A _ _ HA.out.2.2.2.1 HA.out.2.1 (hTA.out _ B5)).mono ?_
  rintro e w6 ⟨v6, rfl, hV6, b6⟩
  rw [cpT_id A HA.out.2.2.2.2.2] at hV6
  obtain ⟨ck, cneg, cod, cld, ccd, cnm, cn, col, cll, ccl, cob, clb, ccb, rfl⟩ := hV6.form
  have B6 := below_and B5 (Nat.le_refl _) b6
  have kA6 := kA5.below b6
  have kB6 := kB5.below b6
  obtain ⟨wl, wb, wd, ex1, ex2, cl1, cl2, cl3⟩ := copy_wb hV6 (HA.out.2.2.2.2.2 A (by rw [parts_eq]; simp)) (HA.out.2.1 A (by rw [parts_eq]; simp))
  have kC := Bx.new w6 (.int .i64 ck) (.bool cneg) (.slice cod cld ccd) (.string cnm) (.int .i64 cn) (.slice col cll ccl) (.slice cob clb ccb) 31
  have b7 : Below w6.heap.size w6 (w6.alloc (.cells #[.int .i64 ck, .bool cneg, .slice cod cld ccd, .string cnm, .int .i64 cn, .slice col cll ccl, .slice cob clb ccb] 31)) := (Below.refl _ _).alloc (Nat.le_refl _) _
  have B7 := below_and B6 (Nat.le_refl _) b7
  have kA7 := kA6.below b7
  have kB7 := kB6.below b7
  have hVC := tv_below (tv_low hV6) b7
  have hs6 : w5.heap.size ≤ w6.heap.size := b6.size
  have hlt7 : w6.heap.size < (w6.alloc (.cells #[.int .i64 ck, .bool cneg, .slice cod cld ccd, .string cnm, .int .i64 cn, .slice col cll ccl, .slice cob clb ccb] 31)).heap.size := by simp
  have HWL := hid (And.intro (wl.of_block (fun k _ hk => b7.block k hk)) (And.intro (wb.of_block (fun k _ hk => b7.block k hk)) (wd.of_block (fun k _ hk => b7.block k hk))))
  have HEX := hid (And.intro ex1 (And.intro ex2 (And.intro cl1 (And.intro cl2 cl3))))
  clear kA5 kB5 kA6 kB6 B5 B6 b6 b7 hV6 wl wb wd ex1 ex2 cl1 cl2 cl3
  go_upto_region 6 with fail
  generalize (w6.alloc (.cells #[.int .i64 ck, .bool cneg, .slice cod cld ccd, .string cnm, .int .i64 cn, .slice col cll ccl, .slice cob clb ccb] 31)) = W7 at *
  generalize hg5 : w6.heap.size = g5 at *
  have hEs : g5 < W7.heap.size := hlt7
  obtain ⟨D, hD⟩ : ∃ D, (cT A U == 0) = D := ⟨_, rfl⟩
  have HD := hid hD
  have hb7d : Below W7.heap.size W7 W7.drew := (Below.refl _ _).drew
  have hTC := hid (fun w' (hb : Below W7.drew.heap.size W7.drew w') => tv_below hVC (below_and hb7d (Nat.le_refl _) hb))
  have kAV := kA7.below hb7d
  have kBV := kB7.below hb7d
  have kCV := kC.below hb7d
  have hEV : g5 < W7.drew.heap.size := hEs
  have hS : Hid (∀ w', Below W7.drew.heap.size W7.drew w' → (w'.cell? ⟨w.heap.size, 0, none⟩ = some (.int .i64 ak) ∧ w'.cell? ⟨w.heap.size, 1, none⟩ = some (.bool aneg) ∧ w'.cell? ⟨w.heap.size, 2, none⟩ = some (.slice aod ald acd) ∧ w'.cell? ⟨w.heap.size, 3, none⟩ = some (.string anm) ∧ w'.cell? ⟨w.heap.size, 4, none⟩ = some (.int .i64 an) ∧ w'.cell? ⟨w.heap.size, 5, none⟩ = some (.slice aol all acl) ∧ w'.cell? ⟨w.heap.size, 6, none⟩ = some (.slice aob alb acb) ∧ w'.cell? ⟨w.heap.size + 1, 0, none⟩ = some (.int .i64 uk) ∧ w'.cell? ⟨w.heap.size + 1, 1, none⟩ = some (.bool uneg) ∧ w'.cell? ⟨w.heap.size + 1, 2, none⟩ = some (.slice uod uld ucd) ∧ w'.cell? ⟨w.heap.size + 1, 3, none⟩ = some (.string unm) ∧ w'.cell? ⟨w.heap.size + 1, 4, none⟩ = some (.int .i64 un) ∧ w'.cell? ⟨w.heap.size + 1, 5, none⟩ = some (.slice uol ull ucl) ∧ w'.cell? ⟨w.heap.size + 1, 6, none⟩ = some (.slice uob ulb ucb) ∧ w'.cell? ⟨g5, 0, none⟩ = some (.int .i64 ck) ∧ w'.cell? ⟨g5, 1, none⟩ = some (.bool cneg) ∧ w'.cell? ⟨g5, 2, none⟩ = some (.slice cod cld ccd) ∧ w'.cell? ⟨g5, 3, none⟩ = some (.string cnm) ∧ w'.cell? ⟨g5, 4, none⟩ = some (.int .i64 cn) ∧ w'.cell? ⟨g5, 5, none⟩ = some (.slice col cll ccl) ∧ w'.cell? ⟨g5, 6, none⟩ = some (.slice cob clb ccb))) := hid (fun w' hb => by
    obtain ⟨m0, m1, m2, m3, m4, m5, m6⟩ := (kAV.below hb).res
    obtain ⟨n0, n1, n2, n3, n4, n5, n6⟩ := (kBV.below hb).res
    obtain ⟨p0, p1, p2, p3, p4, p5, p6⟩ := (kCV.below hb).res
    exact ⟨m0, m1, m2, m3, m4, m5, m6, n0, n1, n2, n3, n4, n5, n6, p0, p1, p2, p3, p4, p5, p6⟩)
  have HK := hid (And.intro kAV (And.intro kCV (And.intro hEV (And.intro hs5 (And.intro hs6 (And.intro (HWL.out.1.of_block (w' := W7.drew) (fun k _ _ => rfl)) (And.intro (HWL.out.2.1.of_block (w' := W7.drew) (fun k _ _ => rfl)) (HWL.out.2.2.of_block (w' := W7.drew) (fun k _ _ => rfl)))))))))
  have BD : Below w.heap.size w W7.drew := B7.drew
  have hTAd := hTA
  have hTUd := hTU
  have hTad := hTa
  clear hTA hTU hTa
  have hTA := hid (fun w' (hb : Below W7.drew.heap.size W7.drew w') => hTAd.out _ (below_and BD (Nat.le_refl _) hb))
  have hTU := hid (fun w' (hb : Below W7.drew.heap.size W7.drew w') => hTUd.out _ (below_and BD (Nat.le_refl _) hb))
  have hTa := hid (fun w' (hb : Below W7.drew.heap.size W7.drew w') => hTad.out _ (below_and BD (Nat.le_refl _) hb))
  have hDr : Below W7.drew.heap.size W7.drew W7.drew := Below.refl _ _
  clear hD kA7 kB7 kC hEs hs5 hs6 hVC B7 hlt7 hb7d hg5 kAV kBV kCV hEV HWL
  refine wp_region_held_drew (S := fun w' => w'.cell? ⟨w.heap.size, 0, none⟩ = some (.int .i64 ak) ∧ w'.cell? ⟨w.heap.size, 1, none⟩ = some (.bool aneg) ∧ w'.cell? ⟨w.heap.size, 2, none⟩ = some (.slice aod ald acd) ∧ w'.cell? ⟨w.heap.size, 3, none⟩ = some (.string anm) ∧ w'.cell? ⟨w.heap.size, 4, none⟩ = some (.int .i64 an) ∧ w'.cell? ⟨w.heap.size, 5, none⟩ = some (.slice aol all acl) ∧ w'.cell? ⟨w.heap.size, 6, none⟩ = some (.slice aob alb acb) ∧ w'.cell? ⟨w.heap.size + 1, 0, none⟩ = some (.int .i64 uk) ∧ w'.cell? ⟨w.heap.size + 1, 1, none⟩ = some (.bool uneg) ∧ w'.cell? ⟨w.heap.size + 1, 2, none⟩ = some (.slice uod uld ucd) ∧ w'.cell? ⟨w.heap.size + 1, 3, none⟩ = some (.string unm) ∧ w'.cell? ⟨w.heap.size + 1, 4, none⟩ = some (.int .i64 un) ∧ w'.cell? ⟨w.heap.size + 1, 5, none⟩ = some (.slice uol ull ucl) ∧ w'.cell? ⟨w.heap.size + 1, 6, none⟩ = some (.slice uob ulb ucb) ∧ w'.cell? ⟨g5, 0, none⟩ = some (.int .i64 ck) ∧ w'.cell? ⟨g5, 1, none⟩ = some (.bool cneg) ∧ w'.cell? ⟨g5, 2, none⟩ = some (.slice cod cld ccd) ∧ w'.cell? ⟨g5, 3, none⟩ = some (.string cnm) ∧ w'.cell? ⟨g5, 4, none⟩ = some (.int .i64 cn) ∧ w'.cell? ⟨g5, 5, none⟩ = some (.slice col cll ccl) ∧ w'.cell? ⟨g5, 6, none⟩ = some (.slice cob clb ccb)) (by kernel_rfl) (by exact hS.out _ hDr) (fun hHeld => ?_)
  generalize W7.drew = V at *
  refine wpAnyH_take (i := 0) (oi := _) (v := ?_) rfl (by kernel_rfl) (by kernel_rfl) (by kernel_rfl) (fun _ _ _ h => h) (Or.inl ⟨by rfl, ?_⟩) (by assumption) ?_
  rotate_left 1
  · (intro w hSw; (try dsimp only at hSw); go_simp; try with_reducible rfl)
  try simp (maxSteps := 10000000) only [List.getElem_toArray, List.getElem_cons_succ, List.getElem_cons_zero, Act.put, List.setIfInBounds_toArray, List.set_cons_zero, List.set_cons_succ]
  refine wpAnyH_take (i := 1) (oi := _) (v := ?_) rfl (by kernel_rfl) (by kernel_rfl) (by kernel_rfl) (fun _ _ _ h => h) (Or.inl ⟨by rfl, ?_⟩) (by assumption) ?_
  rotate_left 1
  · (intro w hSw; (try dsimp only at hSw); go_simp; try with_reducible rfl)
  try simp (maxSteps := 10000000) only [List.getElem_toArray, List.getElem_cons_succ, List.getElem_cons_zero, Act.put, List.setIfInBounds_toArray, List.set_cons_zero, List.set_cons_succ]
  refine wpAnyH_ready (rs := [2]) (by kernel_rfl) (by simp) ?_
  refine AllReadyH.cons rfl (fun K hK => ?_) AllReadyH.nil
  go_simp
  refine (rSame_w A A _ _ _ HA.out.2.1 HA.out.2.1 (hTA.out _ hDr) (hTC.out _ hDr) (hTa.out _ hDr)).mono ?_
  rw [hself.out]
  rintro e q1 ⟨rfl, r1⟩
  have d1 : Below V.heap.size V q1 := below_and hDr (Nat.le_refl _) r1
  try go_simp
  refine hK.out _ _ ?_ (fun hHeld => ?_)
  · exact hS.out _ (by assumption)
  clear hK K
  try simp (maxSteps := 10000000) only [List.getElem_toArray, List.getElem_cons_succ, List.getElem_cons_zero, Act.put, List.setIfInBounds_toArray, List.set_cons_zero, List.set_cons_succ]
  refine wpAnyH_take (i := 3) (oi := _) (v := ?_) rfl (by kernel_rfl) (by kernel_rfl) (by kernel_rfl) (fun _ _ _ h => h) (Or.inl ⟨by rfl, ?_⟩) (by assumption) ?_
  rotate_left 1
  · (intro w hSw; (try dsimp only at hSw); go_simp; try with_reducible rfl)
  try simp (maxSteps := 10000000) only [List.getElem_toArray, List.getElem_cons_succ, List.getElem_cons_zero, Act.put, List.setIfInBounds_toArray, List.set_cons_zero, List.set_cons_succ]
  refine wpAnyH_take (i := 4) (oi := _) (v := ?_) rfl (by kernel_rfl) (by kernel_rfl) (by kernel_rfl) (fun _ _ _ h => h) (Or.inl ⟨by rfl, ?_⟩) (by assumption) ?_
  rotate_left 1
  · (intro w hSw; (try dsimp only at hSw); go_simp; try with_reducible rfl)
  try simp (maxSteps := 10000000) only [List.getElem_toArray, List.getElem_cons_succ, List.getElem_cons_zero, Act.put, List.setIfInBounds_toArray, List.set_cons_zero, List.set_cons_succ]
  refine wpAnyH_take (i := 5) (oi := _) (v := ?_) rfl (by kernel_rfl) (by kernel_rfl) (by kernel_rfl) (fun _ _ _ h => h) (Or.inl ⟨by rfl, ?_⟩) (by assumption) ?_
  rotate_left 1
  · (intro w hSw; (try dsimp only at hSw); go_simp; try with_reducible rfl)
  try simp (maxSteps := 10000000) only [List.getElem_toArray, List.getElem_cons_succ, List.getElem_cons_zero, Act.put, List.setIfInBounds_toArray, List.set_cons_zero, List.set_cons_succ]
  refine wpAnyH_take (i := 6) (oi := _) (v := ?_) rfl (by kernel_rfl) (by kernel_rfl) (by kernel_rfl) (fun _ _ _ h => h) (Or.inl ⟨by rfl, ?_⟩) (by assumption) ?_
  rotate_left 1
  · (intro w hSw; (try dsimp only at hSw); go_simp; try with_reducible rfl)
  try simp (maxSteps := 10000000) only [List.getElem_toArray, List.getElem_cons_succ, List.getElem_cons_zero, Act.put, List.setIfInBounds_toArray, List.set_cons_zero, List.set_cons_succ]
  refine wpAnyH_ready (rs := [7]) (by kernel_rfl) (by simp) ?_
  refine AllReadyH.cons rfl (fun K hK => ?_) AllReadyH.nil
  go_simp
  refine (Same_w A A _ _ _ HA.out.1 HA.out.1 HA.out.2.2.1 (hTA.out _ d1) (hTC.out _ d1)).mono ?_
  rw [hself.out]
  rintro e q2 ⟨rfl, r2⟩
  have d2 : Below V.heap.size V q2 := below_and d1 (Nat.le_refl _) r2
  try go_simp
  refine hK.out _ _ ?_ (fun hHeld => ?_)
  · exact hS.out _ (by assumption)
  clear hK K
  try simp (maxSteps := 10000000) only [List.getElem_toArray, List.getElem_cons_succ, List.getElem_cons_zero, Act.put, List.setIfInBounds_toArray, List.set_cons_zero, List.set_cons_succ]
  refine wpAnyH_take (i := 8) (oi := _) (v := ?_) rfl (by kernel_rfl) (by kernel_rfl) (by kernel_rfl) (fun _ _ _ h => h) (Or.inl ⟨by rfl, ?_⟩) (by assumption) ?_
  rotate_left 1
  · (intro w hSw; (try dsimp only at hSw); go_simp; try with_reducible rfl)
  try simp (maxSteps := 10000000) only [List.getElem_toArray, List.getElem_cons_succ, List.getElem_cons_zero, Act.put, List.setIfInBounds_toArray, List.set_cons_zero, List.set_cons_succ]
  refine wpAnyH_take (i := 9) (oi := _) (v := ?_) rfl (by kernel_rfl) (by kernel_rfl) (by kernel_rfl) (fun _ _ _ h => h) (Or.inl ⟨by rfl, ?_⟩) (by assumption) ?_
  rotate_left 1
  · (intro w hSw; (try dsimp only at hSw); go_simp; try with_reducible rfl)
  try simp (maxSteps := 10000000) only [List.getElem_toArray, List.getElem_cons_succ, List.getElem_cons_zero, Act.put, List.setIfInBounds_toArray, List.set_cons_zero, List.set_cons_succ]
  refine wpAnyH_take (i := 10) (oi := _) (v := ?_) rfl (by kernel_rfl) (by kernel_rfl) (by kernel_rfl) (fun _ _ _ h => h) (Or.inl ⟨by rfl, ?_⟩) (by assumption) ?_
  rotate_left 1
  · (intro w hSw; (try dsimp only at hSw); go_simp; try with_reducible rfl)
  try simp (maxSteps := 10000000) only [List.getElem_toArray, List.getElem_cons_succ, List.getElem_cons_zero, Act.put, List.setIfInBounds_toArray, List.set_cons_zero, List.set_cons_succ]
  refine wpAnyH_take (i := 11) (oi := _) (v := ?_) rfl (by kernel_rfl) (by kernel_rfl) (by kernel_rfl) (fun _ _ _ h => h) (Or.inl ⟨by rfl, ?_⟩) (by assumption) ?_
  rotate_left 1
  · (intro w hSw; (try dsimp only at hSw); go_simp; try with_reducible rfl)
  try simp (maxSteps := 10000000) only [List.getElem_toArray, List.getElem_cons_succ, List.getElem_cons_zero, Act.put, List.setIfInBounds_toArray, List.set_cons_zero, List.set_cons_succ]
  refine wpAnyH_take (i := 12) (oi := _) (v := ?_) rfl (by kernel_rfl) (by kernel_rfl) (by kernel_rfl) (fun _ _ _ h => h) (Or.inl ⟨by rfl, ?_⟩) (by assumption) ?_
  rotate_left 1
  · (intro w hSw; (try dsimp only at hSw); go_simp; try with_reducible rfl)
  try simp (maxSteps := 10000000) only [List.getElem_toArray, List.getElem_cons_succ, List.getElem_cons_zero, Act.put, List.setIfInBounds_toArray, List.set_cons_zero, List.set_cons_succ]
  refine wpAnyH_take (i := 14) (oi := _) (v := ?_) rfl (by kernel_rfl) (by kernel_rfl) (by kernel_rfl) (fun _ _ _ h => h) (Or.inl ⟨by rfl, ?_⟩) (by assumption) ?_
  rotate_left 1
  · (intro w hSw; (try dsimp only at hSw); go_simp; try with_reducible rfl)
  try simp (maxSteps := 10000000) only [List.getElem_toArray, List.getElem_cons_succ, List.getElem_cons_zero, Act.put, List.setIfInBounds_toArray, List.set_cons_zero, List.set_cons_succ]
  refine wpAnyH_take (i := 15) (oi := _) (v := ?_) rfl (by kernel_rfl) (by kernel_rfl) (by kernel_rfl) (fun _ _ _ h => h) (Or.inl ⟨by rfl, ?_⟩) (by assumption) ?_
  rotate_left 1
  · (intro w hSw; (try dsimp only at hSw); go_simp; try with_reducible rfl)
  try simp (maxSteps := 10000000) only [List.getElem_toArray, List.getElem_cons_succ, List.getElem_cons_zero, Act.put, List.setIfInBounds_toArray, List.set_cons_zero, List.set_cons_succ]
  refine wpAnyH_ready (rs := [13]) (by kernel_rfl) (by simp) ?_
  refine AllReadyH.cons rfl (fun K hK => ?_) AllReadyH.nil
  go_simp
  refine (Same_w A U _ _ _ HA.out.1 HU.out.1 HA.out.2.2.1 (hTA.out _ d2) (hTU.out _ d2)).mono ?_
  rw [HD.out]
  rintro e q3 ⟨rfl, r3⟩
  have d3 : Below V.heap.size V q3 := below_and d2 (Nat.le_refl _) r3
  try go_simp
  refine hK.out _ _ ?_ (fun hHeld => ?_)
  · exact hS.out _ (by assumption)
  clear hK K
  try simp (maxSteps := 10000000) only [List.getElem_toArray, List.getElem_cons_succ, List.getElem_cons_zero, Act.put, List.setIfInBounds_toArray, List.set_cons_zero, List.set_cons_succ]
  refine wpAnyH_ready (rs := [16]) (by kernel_rfl) (by simp) ?_
  refine AllReadyH.cons rfl (fun K hK => ?_) AllReadyH.nil
  go_simp
  refine (rSame_w A U _ _ _ HA.out.2.1 HU.out.2 (hTA.out _ d3) (hTU.out _ d3) (hTa.out _ d3)).mono ?_
  rw [HD.out]
  rintro e q4 ⟨rfl, r4⟩
  have d4 : Below V.heap.size V q4 := below_and d3 (Nat.le_refl _) r4
  try go_simp
  refine hK.out _ _ ?_ (fun hHeld => ?_)
  · exact hS.out _ (by assumption)
  clear hK K
  try simp (maxSteps := 10000000) only [List.getElem_toArray, List.getElem_cons_succ, List.getElem_cons_zero, Act.put, List.setIfInBounds_toArray, List.set_cons_zero, List.set_cons_succ]
  refine wpAnyH_take (i := 17) (oi := _) (v := ?_) rfl (by kernel_rfl) (by kernel_rfl) (by kernel_rfl) (fun _ _ _ h => h) (Or.inl ⟨by rfl, ?_⟩) (by assumption) ?_
  rotate_left 1
  · (intro w hSw; (try dsimp only at hSw); go_simp; try with_reducible rfl)
  try simp (maxSteps := 10000000) only [List.getElem_toArray, List.getElem_cons_succ, List.getElem_cons_zero, Act.put, List.setIfInBounds_toArray, List.set_cons_zero, List.set_cons_succ]
  refine wpAnyH_take (i := 18) (oi := _) (v := ?_) rfl (by kernel_rfl) (by kernel_rfl) (by kernel_rfl) (fun _ _ _ h => h) (Or.inl ⟨by rfl, ?_⟩) (by assumption) ?_
  rotate_left 1
  · (intro w hSw; (try dsimp only at hSw); go_simp; try with_reducible rfl)
  try simp (maxSteps := 10000000) only [List.getElem_toArray, List.getElem_cons_succ, List.getElem_cons_zero, Act.put, List.setIfInBounds_toArray, List.set_cons_zero, List.set_cons_succ]
  refine wpAnyH_done (by kernel_rfl) ?_ _
  have hDD : (D != D) = false := by cases D <;> rfl
  obtain ⟨kAV, kCV, hEV, hs5, hs6, wl, wb, wd⟩ := HK.out
  have kAq := kAV.below d4
  have kCq := kCV.below d4
  have hs4 : V.heap.size ≤ q4.heap.size := d4.size
  clear hS hHeld kAV kCV r1 r2 r3 r4 d1 d2 d3 HK
  obtain ⟨x0, x1, x2, x3, x4, x5, x6⟩ := kAq.res
  go_wp2_with fail
  clear x0 x1 x2 x3 x4 x5 x6 hDD
  refine (rCopy_w (tsz A) A _ _ (Nat.le_refl _) HA.out.2.2.2.2.1 (hTA.out _ d4)).mono ?_
  rintro e w9 ⟨v9, rfl, hV9, b9⟩
  obtain ⟨zk, zneg, zod, zld, zcd, znm, zn, zol, zll, zcl, zob, zlb, zcb, rfl⟩ := hV9.form
  have b10 : Below w9.heap.size w9 (w9.alloc (.cells #[.int .i64 zk, .bool zneg, .slice zod zld zcd, .string znm, .int .i64 zn, .slice zol zll zcl, .slice zob zlb zcb] 31)) := (Below.refl _ _).alloc (Nat.le_refl _) _
  have b910 := below_and b9 (Nat.le_refl _) b10
  have D10 := below_and d4 (Nat.le_refl _) b910
  have kAW := kAq.below b910
  have kCW := kCq.below b910
  have kZW := Bx.new w9 (.int .i64 zk) (.bool zneg) (.slice zod zld zcd) (.string znm) (.int .i64 zn) (.slice zol zll zcl) (.slice zob zlb zcb) 31
  have hVZ : TV (fun k => q4.heap.size ≤ k) (w9.alloc (.cells #[.int .i64 zk, .bool zneg, .slice zod zld zcd, .string znm, .int .i64 zn, .slice zol zll zcl, .slice zob zlb zcb] 31)) A (tmV zk zneg (.slice zod zld zcd) znm zn (.slice zol zll zcl) (.slice zob zlb zcb)) := TV.mono (fun k _ hk => hk.1) _ _ (TV.zs (Z := Zb q4.heap.size w9) (fun k hk => b10.block k hk.2) _ _ hV9)
  have BW := below_and BD (Nat.le_refl _) D10
  have hs9 : q4.heap.size ≤ w9.heap.size := b9.size
  have hsW : w9.heap.size < (w9.alloc (.cells #[.int .i64 zk, .bool zneg, .slice zod zld zcd, .string znm, .int .i64 zn, .slice zol zll zcl, .slice zob zlb zcb] 31)).heap.size := by simp
  have wlW := wl.of_block (w' := (w9.alloc (.cells #[.int .i64 zk, .bool zneg, .slice zod zld zcd, .string znm, .int .i64 zn, .slice zol zll zcl, .slice zob zlb zcb] 31))) (fun k _ hk => D10.block k (by omega))
  have wbW := wb.of_block (w' := (w9.alloc (.cells #[.int .i64 zk, .bool zneg, .slice zod zld zcd, .string znm, .int .i64 zn, .slice zol zll zcl, .slice zob zlb zcb] 31))) (fun k _ hk => D10.block k (by omega))
  have wdW := wd.of_block (w' := (w9.alloc (.cells #[.int .i64 zk, .bool zneg, .slice zod zld zcd, .string znm, .int .i64 zn, .slice zol zll zcl, .slice zob zlb zcb] 31))) (fun k _ hk => D10.block k (by omega))
  clear wl wb wd hV9 b9 b10 b910 D10 d4 kAq kCq BD hTA hTU hTa hTC HD HU hDr
  go_upto_region 9 with fail
  generalize (w9.alloc (.cells #[.int .i64 zk, .bool zneg, .slice zod zld zcd, .string znm, .int .i64 zn, .slice zol zll zcl, .slice zob zlb zcb] 31)) = W at *
  generalize hgz : w9.heap.size = gz at *
  clear hgz
  have HWF := hid (And.intro kAW (And.intro kCW (And.intro kZW (And.intro hVZ (And.intro BW (And.intro hs5 (And.intro hs6 (And.intro hEV (And.intro hs4 (And.intro hs9 hsW))))))))))
  clear kAW kCW kZW hVZ BW hs5 hs6 hEV hs4 hs9 hsW
  go_wp2_with fail
  go_loopg [7] cll (fun t v7 wr => ∃ i : Nat, t + i = cll ∧ v7 = .int .i64 (i : Int) ∧ Kept (fun k => w5.heap.size ≤ k ∧ k < g5) W wr ∧ Wb w5.heap.size g5 col (cll * 7) (fun _ => True) wr ∧ Wb w5.heap.size g5 cob clb (fun u => ∃ x, u = .int .u8 x) wr ∧ Wb w5.heap.size g5 cod cld (fun u => ∃ x, u = .int .u32 x) wr)
  case atStart => exact ⟨0, by omega, rfl, Kept.refl _ _, wlW, wbW, wdW⟩
  case round =>
    clear wlW wbW wdW
    obtain ⟨i, hti, rfl, hkp, wl, wb, wd⟩ := hrel
    obtain ⟨kAW, kCW, kZW, hVZ, BW, hs5, hs6, hEV, hs4, hs9, hsW⟩ := HWF.out
    have kCr := kCW.of_block (hkp.block g5 (by omega) (fun h => by omega))
    clear kAW kCW kZW hVZ BW hs5 hs6 hEV hs4 hs9 hsW
    obtain ⟨c0, c1, c2, c3, c4, c5, c6⟩ := kCr.res
    by_cases hil : i < cll
    · have hii : (i : Int) < (cll : Int) := by omega
      obtain ⟨aL, u0, u1, u2, u3, u4, u5, u6, rfl, ha1, ha2, haf, y0, y1, y2, y3, y4, y5, y6⟩ := wb_seven wl hil
      obtain ⟨hb0, hd0⟩ := HEX.out.1 (by omega)
      have hll := HEX.out.2.2.1
      obtain ⟨p, hp⟩ : ∃ p, aL.add (i * 7) = p := ⟨_, rfl⟩
      have hpb : p.block = aL.block := by rw [← hp, block_add]
      rw [hp] at y0 y1 y2 y3 y4 y5 y6
      have hps := spot_none y0
      obtain ⟨pb, po, rfl⟩ : ∃ pb po, p = (⟨pb, po, none⟩ : Addr) := ⟨_, _, hps⟩
      dsimp only at hpb y1 y2 y3 y4 y5 y6
      have f0 : ∀ j, wr.frozen? ⟨pb, j, none⟩ = false := fun j => by rw [hpb]; exact haf j
      have hk1 := hkp.trans (put7_kept (F := fun k => w5.heap.size ≤ k ∧ k < g5) wr ⟨pb, po, none⟩ (by show w5.heap.size ≤ pb ∧ pb < g5; rw [hpb]; exact ⟨ha1, ha2⟩) (.int .i64 5) (.bool false) (.slice none 0 0) (.string { data := #[] }) (.int .i64 0) (.slice none 0 0) (.slice none 0 0))
      have wl1 := put7_wb wl ⟨pb, po, none⟩ rfl (.int .i64 5) (.bool false) (.slice none 0 0) (.string { data := #[] }) (.int .i64 0) (.slice none 0 0) (.slice none 0 0)
      dsimp only at hk1 wl1
      generalize hWd : (((((((wr.setCell ⟨pb, po, none⟩ (.int .i64 5)).setCell ⟨pb, po + 1, none⟩ (.bool false)).setCell ⟨pb, po + 2, none⟩ (.slice none 0 0)).setCell ⟨pb, po + 3, none⟩ (.string { data := #[] })).setCell ⟨pb, po + 4, none⟩ (.int .i64 0)).setCell ⟨pb, po + 5, none⟩ (.slice none 0 0)).setCell ⟨pb, po + 6, none⟩ (.slice none 0 0)) = W2 at hk1 wl1
      have HWd := hid hWd
      have Hz := hid (And.intro hb0 hd0)
      clear hWd hb0 hd0 hps hpb haf ha1 ha2 hkp wl wb wd
      go_upto_region 11 with fail
      rw [HWd.out]
      clear y0 y1 y2 y3 y4 y5 y6 f0 c0 c1 c2 c3 c4 c5 c6 kCr hp HWd
      go_wp2
      go_roundg (cll - (i + 1))
      case measure => omega
      case rel => exact ⟨i + 1, by omega, by go_num, hk1, wl1, by rw [Hz.out.1]; exact Wb.zero, by rw [Hz.out.2]; exact Wb.zero⟩
    · have hii : ¬ (i : Int) < (cll : Int) := by omega
      clear wl
      go_wp2_with fail
      clear c0 c1 c2 c3 c4 c5 c6 kCr
      go_loopg [8] clb (fun t v9 wr => ∃ j : Nat, t + j = clb ∧ v9 = .int .i64 (j : Int) ∧ Kept (fun k => w5.heap.size ≤ k ∧ k < g5) W wr ∧ Wb w5.heap.size g5 cob clb (fun u => ∃ x, u = .int .u8 x) wr ∧ Wb w5.heap.size g5 cod cld (fun u => ∃ x, u = .int .u32 x) wr)
      case atStart => exact ⟨0, by omega, rfl, hkp, wb, wd⟩
      case round =>
        clear hkp wb wd hii
        obtain ⟨j, htj, rfl, hkp, wb, wd⟩ := hrel
        obtain ⟨kAW, kCW, kZW, hVZ, BW, hs5, hs6, hEV, hs4, hs9, hsW⟩ := HWF.out
        have kCr := kCW.of_block (hkp.block g5 (by omega) (fun h => by omega))
        clear kAW kCW kZW hVZ BW hs5 hs6 hEV hs4 hs9 hsW
        obtain ⟨c0, c1, c2, c3, c4, c5, c6⟩ := kCr.res
        by_cases hjl : j < clb
        · have hii : (j : Int) < (clb : Int) := by omega
          obtain ⟨aL, u0, rfl, ha1, ha2, haf, y0, x, rfl⟩ := wb j hjl
          have hll := HEX.out.2.2.2.1
          have Hz := hid (HEX.out.2.1 (by omega))
          obtain ⟨p, hp⟩ : ∃ p, aL.add j = p := ⟨_, rfl⟩
          have hpb : p.block = aL.block := by rw [← hp, block_add]
          rw [hp] at y0
          have hps := spot_none y0
          have f0 : wr.frozen? p = false := fr_any (fun i => by rw [hpb]; exact haf i)
          have Hk := hid (And.intro hkp (And.intro wb (And.intro hps (And.intro hpb (And.intro ha1 ha2)))))
          clear hkp wb wd hps hpb haf ha1 ha2
          go_wp2_with fail
          go_roundg (clb - (j + 1))
          case measure => omega
          case rel =>
            obtain ⟨hkp, wq, hps, hpb, ha1, ha2⟩ := Hk.out
            exact ⟨j + 1, by omega, by go_num, hkp.trans (Kept.of_set wr (p := p) (by show w5.heap.size ≤ p.block ∧ p.block < g5; rw [hpb]; exact ⟨ha1, ha2⟩) _), wq.set p _ ⟨_, rfl⟩ hps, by rw [Hz.out]; exact Wb.zero⟩
        · have hii : ¬ (j : Int) < (clb : Int) := by omega
          clear wb
          go_wp2_with fail
          clear c0 c1 c2 c3 c4 c5 c6 kCr
          go_loopg [9] cld (fun t v9 wr => ∃ m : Nat, t + m = cld ∧ v9 = .int .i64 (m : Int) ∧ Kept (fun k => w5.heap.size ≤ k ∧ k < g5) W wr ∧ Wb w5.heap.size g5 cod cld (fun u => ∃ x, u = .int .u32 x) wr)
          case atStart => exact ⟨0, by omega, rfl, hkp, wd⟩
          case round =>
            clear hkp wd hii
            obtain ⟨m, htm, rfl, hkp, wd⟩ := hrel
            obtain ⟨kAW, kCW, kZW, hVZ, BW, hs5, hs6, hEV, hs4, hs9, hsW⟩ := HWF.out
            have kCr := kCW.of_block (hkp.block g5 (by omega) (fun h => by omega))
            clear kAW kCW kZW hVZ BW hs5 hs6 hEV hs4 hs9 hsW
            obtain ⟨c0, c1, c2, c3, c4, c5, c6⟩ := kCr.res
            by_cases hml : m < cld
            · have hii : (m : Int) < (cld : Int) := by omega
              obtain ⟨aL, u0, rfl, ha1, ha2, haf, y0, x, rfl⟩ := wd m hml
              have hll := HEX.out.2.2.2.2
              obtain ⟨p, hp⟩ : ∃ p, aL.add m = p := ⟨_, rfl⟩
              have hpb : p.block = aL.block := by rw [← hp, block_add]
              rw [hp] at y0
              have hps := spot_none y0
              have f0 : wr.frozen? p = false := fr_any (fun i => by rw [hpb]; exact haf i)
              have Hk := hid (And.intro hkp (And.intro wd (And.intro hps (And.intro hpb (And.intro ha1 ha2)))))
              clear hkp wd hps hpb haf ha1 ha2
              go_wp2_with fail
              go_roundg (cld - (m + 1))
              case measure => omega
              case rel =>
                obtain ⟨hkp, wq, hps, hpb, ha1, ha2⟩ := Hk.out
                exact ⟨m + 1, by omega, by go_num, hkp.trans (Kept.of_set wr (p := p) (by show w5.heap.size ≤ p.block ∧ p.block < g5; rw [hpb]; exact ⟨ha1, ha2⟩) _), wq.set p _ ⟨_, rfl⟩ hps⟩
            · have hii : ¬ (m : Int) < (cld : Int) := by omega
              clear wd
              obtain ⟨kAW, kCW, kZW, hVZ, BW, hs5, hs6, hEV, hs4, hs9, hsW⟩ := HWF.out
              have kAr := kAW.of_block (hkp.block w.heap.size (by omega) (fun h => by omega))
              have kZr := kZW.of_block (hkp.block gz (by omega) (fun h => by omega))
              have hbr : Below w.heap.size w wr := BW.trans (hkp.below (B := w.heap.size) (by omega) (fun k hk => by omega))
              have hVr := tv_low (TV.zs (Z := fun k => q4.heap.size ≤ k ∧ k < W.heap.size) (w' := wr) (fun k hk => hkp.block k hk.2 (fun h => by omega)) _ _ (TV.mono (fun k hk hz => ⟨hz, hk⟩) _ _ hVZ))
              have hTr := hTAd.out _ hbr
              have hTb := hTad.out _ hbr
              clear kAW kCW kZW hVZ BW hs5 hs6 hEV hs4 hs9 hsW hkp
              obtain ⟨x0, x1, x2, x3, x4, x5, x6⟩ := kAr.res
              obtain ⟨y0, y1, y2, y3, y4, y5, y6⟩ := kZr.res
              go_wp2_with fail
              clear x0 x1 x2 x3 x4 x5 x6 y0 y1 y2 y3 y4 y5 y6 c0 c1 c2 c3 c4 c5 c6 kCr
              refine (rSame_w A A _ _ _ HA.out.2.1 HA.out.2.1 hTr hVr hTb).mono ?_
              rw [hself.out]
              rintro e q9 ⟨rfl, r9⟩
              have hb9 := below_and hbr (Nat.le_refl _) r9
              go_wp2
              go_ret
              exact ⟨rfl, hb9⟩
end Go.Proofs.YtpdoepjnkgffpaaDoor.termSame
