/- OrderKinds, walked. -/
import Derived.Test.YtgaecjocolihjaaDoorKindAll
namespace Go.Proofs.YtgaecjocolihjaaDoor.orderKinds
open Go.ChangeShapes Go.WideShapes Go.ChangeAt Go.ChangeMaps Go.RowKit Go.Shelf
set_option linter.unusedSimpArgs false
set_option linter.unusedVariables false
set_option maxHeartbeats 8000000 in
set_option maxRecDepth 8000 in
theorem walk {H : Type} (enc : TypeId × Value → H) (base : Nat) (w : World) (v0 v1 v2 : Value) (d0 d1 d2 : DataW H) (p0 p1 p2 : List MemPlace)
    (o0 : Value.okWide Tryd.prog w .any base 27 v0) (h0 : DataW.Trod enc Tryd.prog w 0 (fun _ => true) true 27 v0 d0 p0)
    (o1 : Value.okWide Tryd.prog w .any base 27 v1) (h1 : DataW.Trod enc Tryd.prog w 0 (fun _ => true) true 27 v1 d1 p1)
    (o2 : Value.okWide Tryd.prog w .any base 24 v2) (h2 : DataW.Trod enc Tryd.prog w 0 (fun _ => true) true 24 v2 d2 p2)
    (hT : Tabs w) :
    Calls Tryd.prog 7 #[v0, v1, v2] w fun e w' => e = .returned (.bool true) ∧ Below w.heap.size w w' := by
  obtain ⟨A, hA00⟩ := open_term o0 h0
  obtain ⟨U, hU00⟩ := open_term o1 h1
  obtain ⟨o, l, c, rfl, hTR0, hlc⟩ := open_terms o2 h2
  clear o0 h0 o1 h1 o2 h2
  obtain ⟨ak, aneg, aod, ald, acd, anm, an, aol, all, acl, aob, alb, acb, rfl⟩ := hA00.form
  obtain ⟨bk, bneg, bod, bld, bcd, bnm, bn, bol, bll, bcl, bob, blb, bcb, rfl⟩ := hU00.form
  obtain ⟨kA, kB, hB0, hz0⟩ := bx2 w (.int .i64 ak) (.bool aneg) (.slice aod ald acd) (.string anm) (.int .i64 an) (.slice aol all acl) (.slice aob alb acb) (.int .i64 bk) (.bool bneg) (.slice bod bld bcd) (.string bnm) (.int .i64 bn) (.slice bol bll bcl) (.slice bob blb bcb) 27 27
  have hA0 := hid hA00
  have hU0 := hid hU00
  have hLl := hid hTR0
  go_enter Tryd.func7, Tryd.ntmps7
  go_wp2_with fail
  generalize ((w.alloc (.cells #[.int .i64 ak, .bool aneg, .slice aod ald acd, .string anm, .int .i64 an, .slice aol all acl, .slice aob alb acb] 27)).alloc (.cells #[.int .i64 bk, .bool bneg, .slice bod bld bcd, .string bnm, .int .i64 bn, .slice bol bll bcl, .slice bob blb bcb] 27)) = W0 at *
  refine (awake6_w _ (hT.below hB0)).mono ?_
  rintro e w1 ⟨rfl, b1⟩
  have B1 := below_and hB0 (Nat.le_refl _) b1
  have kA1 := kA.below b1
  have kB1 := kB.below b1
  have hz1 := b1.size
  clear kA kB hB0 b1
  obtain ⟨x0, x1, x2, x3, x4, x5, x6⟩ := kA1.res
  obtain ⟨y0, y1, y2, y3, y4, y5, y6⟩ := kB1.res
  have bnw : Below w1.heap.size w1 (w1.alloc (.cells #[.int .i64 ak, .bool aneg, .slice aod ald acd, .string anm, .int .i64 an, .slice aol all acl, .slice aob alb acb, .int .i64 bk, .bool bneg, .slice bod bld bcd, .string bnm, .int .i64 bn, .slice bol bll bcl, .slice bob blb bcb] 27)) := (Below.refl _ _).alloc (Nat.le_refl _) _
  have hTR := tr_pair (heap_alloc_new w1 (.cells #[.int .i64 ak, .bool aneg, .slice aod ald acd, .string anm, .int .i64 an, .slice aol all acl, .slice aob alb acb, .int .i64 bk, .bool bneg, .slice bod bld bcd, .string bnm, .int .i64 bn, .slice bol bll bcl, .slice bob blb bcb] 27)) (tv_below hA00 (below_and B1 (Nat.le_refl _) bnw)) (tv_below hU00 (below_and B1 (Nat.le_refl _) bnw))
  go_wp2_with fail
  refine (Rooms_w 2 (by omega) [A, U] _ _ _ hTR (hT.below (below_and B1 (Nat.le_refl _) bnw))).mono ?_
  rintro e w2 ⟨rfl, b2⟩
  have b2' := below_and bnw (Nat.le_refl _) b2
  have B2 := below_and B1 (Nat.le_refl _) b2'
  have kA2 := kA1.below b2'
  have kB2 := kB1.below b2'
  have hz2 : w.heap.size + 2 ≤ w2.heap.size := by have := b2'.size; omega
  clear x0 x1 x2 x3 x4 x5 x6 y0 y1 y2 y3 y4 y5 y6
  obtain ⟨bb, hbb⟩ : ∃ bb, (decide (([A, U] : List Tm).length ≤ 2) && [A, U].all okRow) = bb := ⟨_, rfl⟩
  rw [hbb]
  cases bb with
  | false =>
    clear hbb hTR
    go_wp2
    go_ret
    exact ⟨rfl, B2⟩
  | true =>
  rw [Bool.and_eq_true] at hbb
  have hf := rooms_wf hTR hbb.2
  have hfp := (rooms_facts hTR hbb.2).1
  have hdp := (rooms_facts hTR hbb.2).2.1
  have hwA := hid (hf A (by simp))
  have hwU := hid (hf U (by simp))
  have hfp' := hid hfp
  have hdp' := hid hdp
  clear hbb hf hfp hdp hTR bnw b2 b2' B1 kA1 kB1
  go_wp2_with fail
  refine (Rooms_w 8 (by omega) l o c _ (tr_below hTR0 B2) (hT.below B2)).mono ?_
  rintro e w3 ⟨rfl, b3⟩
  have B3 := below_and B2 (Nat.le_refl _) b3
  have kA3 := kA2.below b3
  have kB3 := kB2.below b3
  have hz3 : w.heap.size + 2 ≤ w3.heap.size := by have := b3.size; omega
  obtain ⟨bb, hbb⟩ : ∃ bb, (decide (l.length ≤ 8) && l.all okRow) = bb := ⟨_, rfl⟩
  rw [hbb]
  cases bb with
  | false =>
    clear hbb
    go_wp2
    go_ret
    exact ⟨rfl, B3⟩
  | true =>
  rw [Bool.and_eq_true] at hbb
  have hl8 : l.length ≤ 8 := of_decide_eq_true hbb.1
  have hfl := rooms_wf (tr_below hTR0 B2) hbb.2
  have hflp := (rooms_facts (tr_below hTR0 B2) hbb.2).1
  have hfld := hid (rooms_facts (tr_below hTR0 B2) hbb.2).2.1
  have hfA : Hid (∀ p ∈ partsL (A :: l), p.ok1 ∧ fairB p = true) := hid (fun p hp => by
    simp only [partsL, List.mem_append] at hp
    rcases hp with hp | hp
    · exact hfp'.out p (by simp [partsL, hp])
    · exact hflp p hp)
  have hfU : Hid (∀ p ∈ partsL (U :: l), p.ok1 ∧ fairB p = true) := hid (fun p hp => by
    simp only [partsL, List.mem_append] at hp
    rcases hp with hp | hp
    · exact hfp'.out p (by simp [partsL, hp])
    · exact hflp p hp)
  have hfl2 := hid hflp
  have hwl := hid (wfL_of (fun t ht => (hfl t ht).1))
  clear hbb hfl hflp B2 b3 kA2 kB2 hz2
  have hTa := hid (fun w' (hb : Below w.heap.size w w') => hT.below hb)
  obtain ⟨X, hX⟩ : ∃ X, cT A U = X := ⟨_, rfl⟩
  have HX := hid hX
  clear hX hA00 hU00 hTR0 hT
  obtain ⟨x0, x1, x2, x3, x4, x5, x6⟩ := kA3.res
  obtain ⟨y0, y1, y2, y3, y4, y5, y6⟩ := kB3.res
  go_wp2_with fail
  clear x0 x1 x2 x3 x4 x5 x6 y0 y1 y2 y3 y4 y5 y6
  refine (Compare_o A U _ _ _ (tv_below hA0.out B3) (tv_below hU0.out B3) hwA.out.1 hwU.out.1 hwA.out.2.1 (hTa.out _ B3)).mono ?_
  rw [HX.out]
  rintro e w4 ⟨rfl, b4⟩
  have B4 := below_and B3 (Nat.le_refl _) b4
  have kA4 := kA3.below b4
  have kB4 := kB3.below b4
  have hz4 : w.heap.size + 2 ≤ w4.heap.size := by have := b4.size; omega
  clear kA3 kB3 B3 b4 hz3
  go_upto_region 6 with fail
  have hkind : (ak = bk) ∨ (ak ≠ bk ∧ X = cmpZ ak bk) := by
    by_cases hk : ak = bk
    · exact .inl hk
    · refine .inr ⟨hk, ?_⟩
      have h1 := tv_kind hA0.out
      have h2 := tv_kind hU0.out
      rw [← HX.out, cT_kinds (by rw [h1, h2]; exact hk), h1, h2]
  obtain ⟨x0, x1, x2, x3, x4, x5, x6⟩ := kA4.res
  obtain ⟨y0, y1, y2, y3, y4, y5, y6⟩ := kB4.res
  have hXr : -1 ≤ X ∧ X ≤ 1 := by have := cT_range A U; rw [HX.out] at this; exact this
  obtain ⟨kAw4, kBw4, Bw4, hzw4⟩ := And.intro kA4 (And.intro kB4 (And.intro B4 hz4))
  clear kA4 kB4 B4 hz4
  go_cut [7, 42] from 28 to 42 (fun v7 v42 wx => v7 = .int .i64 X ∧ v42 = .bool false ∧ wx = w4)
  case first =>
    rcases hkind with hk | ⟨hk, hxk⟩
    · have f1 : (ak != bk) = false := by simp [hk]
      have f2 : (ak == bk) = true := by simp [hk]
      clear hk
      go_wp2_with fail
      go_meet
      exact ⟨rfl, rfl, rfl⟩
    · have f1 : (ak != bk) = true := by simpa using hk
      have f2 : (ak == bk) = false := by simpa using hk
      by_cases hlt : ak < bk
      · have hX1 : X < 0 := by have := cz_le ak bk; have := cz_ge ak bk; omega
        clear hk hxk
        go_wp2_with fail
        go_meet
        exact ⟨rfl, rfl, rfl⟩
      · have hX1 : ¬ X < 0 := by have := cz_le ak bk; have := cz_ge ak bk; omega
        clear hk hxk
        go_wp2_with fail
        go_meet
        exact ⟨rfl, rfl, rfl⟩
  case rest =>
  obtain ⟨rfl, rfl, rfl⟩ := hcut
  clear x0 x1 x2 x3 x4 x5 x6 y0 y1 y2 y3 y4 y5 y6 hkind
  obtain ⟨w4, hw4⟩ : ∃ x, x = wc := ⟨_, rfl⟩
  subst hw4
  have dV8 : Below w4.heap.size w4 w4.drew := (Below.refl _ w4).drew
  have hz8 : w.heap.size + 2 ≤ w4.drew.heap.size := hzw4
  have hS : Hid (∀ w', Below w4.drew.heap.size w4.drew w' → (w'.cell? ⟨w.heap.size, 0, none⟩ = some (.int .i64 ak) ∧ w'.cell? ⟨w.heap.size, 1, none⟩ = some (.bool aneg) ∧ w'.cell? ⟨w.heap.size, 2, none⟩ = some (.slice aod ald acd) ∧ w'.cell? ⟨w.heap.size, 3, none⟩ = some (.string anm) ∧ w'.cell? ⟨w.heap.size, 4, none⟩ = some (.int .i64 an) ∧ w'.cell? ⟨w.heap.size, 5, none⟩ = some (.slice aol all acl) ∧ w'.cell? ⟨w.heap.size, 6, none⟩ = some (.slice aob alb acb) ∧ w'.cell? ⟨w.heap.size + 1, 0, none⟩ = some (.int .i64 bk) ∧ w'.cell? ⟨w.heap.size + 1, 1, none⟩ = some (.bool bneg) ∧ w'.cell? ⟨w.heap.size + 1, 2, none⟩ = some (.slice bod bld bcd) ∧ w'.cell? ⟨w.heap.size + 1, 3, none⟩ = some (.string bnm) ∧ w'.cell? ⟨w.heap.size + 1, 4, none⟩ = some (.int .i64 bn) ∧ w'.cell? ⟨w.heap.size + 1, 5, none⟩ = some (.slice bol bll bcl) ∧ w'.cell? ⟨w.heap.size + 1, 6, none⟩ = some (.slice bob blb bcb))) := hid (fun w' hb => by
    obtain ⟨t0, t1, t2, t3, t4, t5, t6⟩ := ((kAw4.below dV8).below hb).res
    obtain ⟨u0, u1, u2, u3, u4, u5, u6⟩ := ((kBw4.below dV8).below hb).res
    exact ⟨t0, t1, t2, t3, t4, t5, t6, u0, u1, u2, u3, u4, u5, u6⟩)
  have B8 : Below w.heap.size w w4.drew := below_and Bw4 (Nat.le_refl _) dV8
  have hlR := hid (fun w' (hb : Below w4.drew.heap.size w4.drew w') => TR.mono (Z' := fun k => k < w4.drew.heap.size) (fun k _ hk => by have : k < w.heap.size := hk; omega) _ _ (TR.zs (fun k hk => (below_and B8 (Nat.le_refl _) hb).block k hk) _ _ hLl.out))
  have hAr := hid (fun w' (hb : Below w4.drew.heap.size w4.drew w') => TV.mono (Z' := fun k => k < w4.drew.heap.size) (fun k _ hk => by have : k < w.heap.size := hk; omega) _ _ (TV.zs (fun k hk => (below_and B8 (Nat.le_refl _) hb).block k hk) _ _ hA0.out))
  have hUr := hid (fun w' (hb : Below w4.drew.heap.size w4.drew w') => TV.mono (Z' := fun k => k < w4.drew.heap.size) (fun k _ hk => by have : k < w.heap.size := hk; omega) _ _ (TV.zs (fun k hk => (below_and B8 (Nat.le_refl _) hb).block k hk) _ _ hU0.out))
  go_upto_region 8 with fail
  refine wp_region_held_drew (S := fun w' => w'.cell? ⟨w.heap.size, 0, none⟩ = some (.int .i64 ak) ∧ w'.cell? ⟨w.heap.size, 1, none⟩ = some (.bool aneg) ∧ w'.cell? ⟨w.heap.size, 2, none⟩ = some (.slice aod ald acd) ∧ w'.cell? ⟨w.heap.size, 3, none⟩ = some (.string anm) ∧ w'.cell? ⟨w.heap.size, 4, none⟩ = some (.int .i64 an) ∧ w'.cell? ⟨w.heap.size, 5, none⟩ = some (.slice aol all acl) ∧ w'.cell? ⟨w.heap.size, 6, none⟩ = some (.slice aob alb acb) ∧ w'.cell? ⟨w.heap.size + 1, 0, none⟩ = some (.int .i64 bk) ∧ w'.cell? ⟨w.heap.size + 1, 1, none⟩ = some (.bool bneg) ∧ w'.cell? ⟨w.heap.size + 1, 2, none⟩ = some (.slice bod bld bcd) ∧ w'.cell? ⟨w.heap.size + 1, 3, none⟩ = some (.string bnm) ∧ w'.cell? ⟨w.heap.size + 1, 4, none⟩ = some (.int .i64 bn) ∧ w'.cell? ⟨w.heap.size + 1, 5, none⟩ = some (.slice bol bll bcl) ∧ w'.cell? ⟨w.heap.size + 1, 6, none⟩ = some (.slice bob blb bcb)) (by kernel_rfl) (by exact hS.out _ (Below.refl _ _)) (fun hHeld => ?_)
  obtain ⟨V8, hV8⟩ : ∃ x, x = w4.drew := ⟨_, rfl⟩
  rw [← hV8] at hS hlR hAr hUr hz8 B8 hHeld ⊢
  refine wpAnyH_take (i := 0) (oi := _) (v := ?_) rfl (by kernel_rfl) (by kernel_rfl) (by kernel_rfl) (fun _ _ _ h => h) (Or.inl ⟨by rfl, ?_⟩) (by assumption) ?_
  rotate_left 1
  · (intro w hSw; (try dsimp only at hSw); go_simp; try with_reducible rfl)
  try simp (maxSteps := 10000000) only [List.getElem_toArray, List.getElem_cons_succ, List.getElem_cons_zero, Act.put, List.setIfInBounds_toArray, List.set_cons_zero, List.set_cons_succ]
  refine wpAnyH_take (i := 2) (oi := _) (v := ?_) rfl (by kernel_rfl) (by kernel_rfl) (by kernel_rfl) (fun _ _ _ h => h) (Or.inl ⟨by rfl, ?_⟩) (by assumption) ?_
  rotate_left 1
  · (intro w hSw; (try dsimp only at hSw); go_simp; try with_reducible rfl)
  try simp (maxSteps := 10000000) only [List.getElem_toArray, List.getElem_cons_succ, List.getElem_cons_zero, Act.put, List.setIfInBounds_toArray, List.set_cons_zero, List.set_cons_succ]
  refine wpAnyH_take (i := 5) (oi := _) (v := ?_) rfl (by kernel_rfl) (by kernel_rfl) (by kernel_rfl) (fun _ _ _ h => h) (Or.inl ⟨by rfl, ?_⟩) (by assumption) ?_
  rotate_left 1
  · (intro w hSw; (try dsimp only at hSw); go_simp; try with_reducible rfl)
  try simp (maxSteps := 10000000) only [List.getElem_toArray, List.getElem_cons_succ, List.getElem_cons_zero, Act.put, List.setIfInBounds_toArray, List.set_cons_zero, List.set_cons_succ]
  refine wpAnyH_take (i := 7) (oi := _) (v := ?_) rfl (by kernel_rfl) (by kernel_rfl) (by kernel_rfl) (fun _ _ _ h => h) (Or.inl ⟨by rfl, ?_⟩) (by assumption) ?_
  rotate_left 1
  · (intro w hSw; (try dsimp only at hSw); go_simp; try with_reducible rfl)
  try simp (maxSteps := 10000000) only [List.getElem_toArray, List.getElem_cons_succ, List.getElem_cons_zero, Act.put, List.setIfInBounds_toArray, List.set_cons_zero, List.set_cons_succ]
  refine wpAnyH_at (m' := 10) (listed' := #[true, false, true, false, false, true, false, true, false, false, false, false, false, false]) (by kernel_rfl) (by kernel_rfl) ?_
  refine wpAnyH_name fun a0 ha0 => ?_
  refine wpAnyH_kd (A := fun s => { tmps := #[tmV ak aneg (Value.slice aod ald acd) anm an (Value.slice aol all acl) (Value.slice aob alb acb), tmV bk bneg (Value.slice bod bld bcd) bnm bn (Value.slice bol bll bcl) (Value.slice bob blb bcb), Value.slice o l.length c, Value.pointer (some ⟨w.heap.size, 0, none⟩), Value.pointer (some ⟨w.heap.size + 1, 0, none⟩), undef, Value.bool false, Value.int IntKind.i64 X, s.x10, s.x11, undef, undef, undef, Value.bool true, Value.bool false, Value.agg #[Value.int IntKind.i64 ak, Value.bool aneg, Value.slice aod ald acd, Value.string anm, Value.int IntKind.i64 an, Value.slice aol all acl, Value.slice aob alb acb], Value.agg #[Value.int IntKind.i64 bk, Value.bool bneg, Value.slice bod bld bcd, Value.string bnm, Value.int IntKind.i64 bn, Value.slice bol bll bcl, Value.slice bob blb bcb], Value.slice (some ⟨w1.heap.size, 0, none⟩) 2 2, Value.bool true, Value.bool false, Value.bool false, Value.slice o l.length c, Value.bool true, Value.bool false, Value.bool false, Value.agg #[Value.int IntKind.i64 ak, Value.bool aneg, Value.slice aod ald acd, Value.string anm, Value.int IntKind.i64 an, Value.slice aol all acl, Value.slice aob alb acb], Value.agg #[Value.int IntKind.i64 bk, Value.bool bneg, Value.slice bod bld bcd, Value.string bnm, Value.int IntKind.i64 bn, Value.slice bol bll bcl, Value.slice bob blb bcb], Value.int IntKind.i64 X, u28, u29, u30, u31, u32, u33, u34, u35, u36, u37, u38, u39, u40, u41, Value.bool false, Value.agg #[Value.int IntKind.i64 ak, Value.bool aneg, Value.slice aod ald acd, Value.string anm, Value.int IntKind.i64 an, Value.slice aol all acl, Value.slice aob alb acb], s.x1, Value.slice o l.length c, s.x3, s.x4, Value.agg #[Value.int IntKind.i64 bk, Value.bool bneg, Value.slice bod bld bcd, Value.string bnm, Value.int IntKind.i64 bn, Value.slice bol bll bcl, Value.slice bob blb bcb], s.x6, Value.slice o l.length c, s.x8, s.x9, undef, undef, undef, undef, undef, undef, undef, undef, undef, undef, undef, undef, undef, undef, undef, undef, undef, undef, undef, undef, undef, undef, undef, undef, undef, undef, undef, undef, undef, undef, undef, undef, undef, undef, undef, undef, undef, undef, undef, undef, undef, undef, undef, undef, undef, undef, undef, undef, undef, undef, undef, undef, undef, undef, undef, undef, undef, undef], defers := [] }) (R := Rk V8 A U l #[.int .i64 ak, .bool aneg, .slice aod ald acd, .string anm, .int .i64 an, .slice aol all acl, .slice aob alb acb] #[.int .i64 bk, .bool bneg, .slice bod bld bcd, .string bnm, .int .i64 bn, .slice bol bll bcl, .slice bob blb bcb] tupT) ?_ (fun s w h => h.ok) ?_ ?_ ?_ ?_ ?_ ?_ ?_ ?_ ?_ _ _ undef undef undef undef undef undef undef undef ?_ ?_
  · kernel_rfl
  · intro s w' hR h0
    refine wpOp_step rfl (fun K' hK => ?_)
    have hK' := shutO hK
    clear hK
    go_simp
    refine hK'.out _ _ ⟨_, ?_, hR.n1 h0, hS.out _ (hR.n1 h0).bel⟩
    rfl
  · intro s w' hR h0 e1
    obtain ⟨l1, l3, l4, l6, l8, l9, l10, l11, x1, x3, x4, x6, x8, x9, x10, x11⟩ := s
    dsimp only at h0 e1
    obtain ⟨g1, hx1, hg1⟩ := hR.h1 e1 h0
    dsimp only at hx1
    subst hx1
    have hB1' := (hR.lt g1 (.inl ⟨h0, rfl⟩)).1
    obtain ⟨v2, w2, ys, hr2, hO2, hRC2, hgr2, hat2⟩ := ap2_run w' V8.heap.size g1 1 _ o c l (own_one hB1' hg1) hR.bel.size (by omega) (by omega) (hlR.out _ hR.bel)
    rw [Nat.add_comm] at hO2
    have hRC3 := RC.cat (l := [A]) (xs := [.int .i64 ak, .bool aneg, .slice aod ald acd, .string anm, .int .i64 an, .slice aol all acl, .slice aob alb acb]) ⟨ak, aneg, aod, ald, acd, anm, an, aol, all, acl, aob, alb, acb, [], hAr.out _ hR.bel, rfl, rfl⟩ hRC2
    have hR3 := hR.a3 e1 h0 hRC3 hO2 hgr2 hat2
    refine wpOp_step rfl (fun K' hK => ?_)
    have hK' := shutO hK
    clear hK
    refine step_append_run rfl _ _ 24 rfl (.slice (some ⟨g1, 0, none⟩) 1 1) (.slice o l.length c) v2 w2 rfl rfl hr2 ?_
    refine hK'.out _ _ ⟨_, ?_, hR3, hS.out _ hR3.bel⟩
    rfl
  · intro s w' hR h0 e3
    obtain ⟨l1, l3, l4, l6, l8, l9, l10, l11, x1, x3, x4, x6, x8, x9, x10, x11⟩ := s
    dsimp only at h0 e3
    obtain ⟨o3, c3, hx3, hTR3⟩ := hR.h3 e3 h0
    dsimp only at hx3
    subst hx3
    refine wpOp_step rfl (fun K' hK => ?_)
    have hK' := shutO hK
    clear hK
    go_simp
    refine (rTuple_w (A :: l) o3 c3 _ (by simp only [List.length_cons]; omega) hfA.out (tr_low hTR3)).mono ?_
    rintro e w7 ⟨v7, rfl, hT7, b7⟩
    try go_simp
    refine hK'.out _ _ ⟨_, ?_, hR.c4 e3 h0 hT7 b7, hS.out _ (hR.c4 e3 h0 hT7 b7).bel⟩
    rfl
  · intro s w' hR h0
    refine wpOp_step rfl (fun K' hK => ?_)
    have hK' := shutO hK
    clear hK
    go_simp
    refine hK'.out _ _ ⟨_, ?_, hR.n6 h0, hS.out _ (hR.n6 h0).bel⟩
    rfl
  · intro s w' hR h0 e1 e4
    obtain ⟨l1, l3, l4, l6, l8, l9, l10, l11, x1, x3, x4, x6, x8, x9, x10, x11⟩ := s
    dsimp only at h0 e1 e4
    obtain ⟨g1, hx1, hg1⟩ := hR.h6 e1 h0
    dsimp only at hx1
    subst hx1
    have hB1' := (hR.lt g1 (.inr (.inl ⟨h0, rfl⟩))).1
    obtain ⟨v2, w2, ys, hr2, hO2, hRC2, hgr2, hat2⟩ := ap2_run w' V8.heap.size g1 1 _ o c l (own_one hB1' hg1) hR.bel.size (by omega) (by omega) (hlR.out _ hR.bel)
    rw [Nat.add_comm] at hO2
    have hRC3 := RC.cat (l := [U]) (xs := [.int .i64 bk, .bool bneg, .slice bod bld bcd, .string bnm, .int .i64 bn, .slice bol bll bcl, .slice bob blb bcb]) ⟨bk, bneg, bod, bld, bcd, bnm, bn, bol, bll, bcl, bob, blb, bcb, [], hUr.out _ hR.bel, rfl, rfl⟩ hRC2
    have hR3 := hR.a8 e1 h0 e4 hRC3 hO2 hgr2 hat2
    refine wpOp_step rfl (fun K' hK => ?_)
    have hK' := shutO hK
    clear hK
    refine step_append_run rfl _ _ 24 rfl (.slice (some ⟨g1, 0, none⟩) 1 1) (.slice o l.length c) v2 w2 rfl rfl hr2 ?_
    refine hK'.out _ _ ⟨_, ?_, hR3, hS.out _ hR3.bel⟩
    rfl
  · intro s w' hR h0 e3
    obtain ⟨l1, l3, l4, l6, l8, l9, l10, l11, x1, x3, x4, x6, x8, x9, x10, x11⟩ := s
    dsimp only at h0 e3
    obtain ⟨o3, c3, hx3, hTR3⟩ := hR.h8 e3 h0
    dsimp only at hx3
    subst hx3
    refine wpOp_step rfl (fun K' hK => ?_)
    have hK' := shutO hK
    clear hK
    go_simp
    refine (rTuple_w (U :: l) o3 c3 _ (by simp only [List.length_cons]; omega) hfU.out (tr_low hTR3)).mono ?_
    rintro e w7 ⟨v7, rfl, hT7, b7⟩
    try go_simp
    refine hK'.out _ _ ⟨_, ?_, hR.c9 e3 h0 hT7 b7, hS.out _ (hR.c9 e3 h0 hT7 b7).bel⟩
    rfl
  · intro s w' hR h0
    refine wpOp_step rfl (fun K' hK => ?_)
    have hK' := shutO hK
    clear hK
    go_simp
    refine hK'.out _ _ ⟨_, ?_, hR.n10 h0, hS.out _ (hR.n10 h0).bel⟩
    rfl
  · intro s w' hR h0
    refine wpOp_step rfl (fun K' hK => ?_)
    have hK' := shutO hK
    clear hK
    go_simp
    refine hK'.out _ _ ⟨_, ?_, hR.n11 h0, hS.out _ (hR.n11 h0).bel⟩
    rfl
  rotate_left 1
  · exact ha0
  · exact { bel := Below.refl _ _, ok := rfl, lt := fun k hp => by rcases hp with ⟨_, e⟩ | ⟨_, e⟩ | e | e <;> (simp [Value.ownBlock, undef, pt] at e), u1 := fun _ => rfl, u6 := fun _ => rfl, u10 := fun _ => rfl, u11 := fun _ => rfl, h1 := fun e => by simp at e, h3 := fun e => by simp at e, h4 := fun e => by simp at e, h6 := fun e => by simp at e, h8 := fun e => by simp at e, h9 := fun e => by simp at e, h10 := fun e => by simp at e, h11 := fun e => by simp at e, d16 := fun k _ e => by simp [Value.ownBlock, undef] at e, d1x := fun k _ e => by simp [Value.ownBlock, undef] at e, d6x := fun k _ e => by simp [Value.ownBlock, undef] at e, dxx := fun k e => by simp [undef, pt] at e }
  intro x1 x3 x4 x6 x8 x9 x10 x11 w58 hR
  obtain ⟨tk, tneg, tod, tld, tcd, tnm, tn, tol, tll, tcl, tob, tlb, tcb, hx4, hT48⟩ := hR.h4 rfl
  obtain ⟨uk, uneg, uod, uld, ucd, unm, un, uol, ull, ucl, uob, ulb, ucb, hx9, hT98⟩ := hR.h9 rfl
  obtain ⟨gt, hx10, k108⟩ := hR.h10 rfl
  obtain ⟨gu, hx11, k118⟩ := hR.h11 rfl
  have hb58 := hR.bel
  have hl10 := hR.lt gt (.inr (.inr (.inl hx10)))
  have hl11 := hR.lt gu (.inr (.inr (.inr hx11)))
  have hne8 : gt ≠ gu := fun e => hR.dxx gt hx10 (by rw [hx11, e])
  have hn4 : ∀ k, k = gt ∨ k = gu → Pk ⟨true, true, true, true, true, true, true, true, x1, x3, x4, x6, x8, x9, x10, x11⟩ k := fun k hk => by
    rcases hk with rfl | rfl
    · exact .inr (.inr (.inl hx10))
    · exact .inr (.inr (.inr hx11))
  have hT4 := TV.mono (Z' := fun k => k < w58.heap.size ∧ k ≠ gt ∧ k ≠ gu) (fun k _ hz => ⟨hz.1, fun e => hz.2 (hn4 k (.inl e)), fun e => hz.2 (hn4 k (.inr e))⟩) _ _ hT48
  have hT9 := TV.mono (Z' := fun k => k < w58.heap.size ∧ k ≠ gt ∧ k ≠ gu) (fun k _ hz => ⟨hz.1, fun e => hz.2 (hn4 k (.inl e)), fun e => hz.2 (hn4 k (.inr e))⟩) _ _ hT98
  clear hR hn4 hT48 hT98
  dsimp only at hx4 hx9 hx10 hx11
  subst hx4
  subst hx9
  subst hx10
  subst hx11
  clear ha0
  obtain ⟨f0, f1, f2, f3, f4, f5, f6⟩ := (res7 k108).res
  have ff := (res7 k108).fr
  refine wpAnyH_ready (rs := [12]) (by kernel_rfl) (by simp) ?_
  refine AllReadyH.cons rfl (fun K hK => ?_) AllReadyH.nil
  go_simp
  have onT8 := only_put w58 gt (.int .i64 tk) (.bool tneg) (.slice tod tld tcd) (.string tnm) (.int .i64 tn) (.slice tol tll tcl) (.slice tob tlb tcb)
  have hgT8 : (((((((w58.setCell ⟨gt, 0, none⟩ (.int .i64 tk)).setCell ⟨gt, 1, none⟩ (.bool tneg)).setCell ⟨gt, 2, none⟩ (.slice tod tld tcd)).setCell ⟨gt, 3, none⟩ (.string tnm)).setCell ⟨gt, 4, none⟩ (.int .i64 tn)).setCell ⟨gt, 5, none⟩ (.slice tol tll tcl)).setCell ⟨gt, 6, none⟩ (.slice tob tlb tcb)).heap[gt]? = some (.cells #[.int .i64 tk, .bool tneg, .slice tod tld tcd, .string tnm, .int .i64 tn, .slice tol tll tcl, .slice tob tlb tcb] 27 (0, 0)) := heap_put7 k108 (.int .i64 tk) (.bool tneg) (.slice tod tld tcd) (.string tnm) (.int .i64 tn) (.slice tol tll tcl) (.slice tob tlb tcb)
  clear f0 f1 f2 f3 f4 f5 f6 ff
  generalize (((((((w58.setCell ⟨gt, 0, none⟩ (.int .i64 tk)).setCell ⟨gt, 1, none⟩ (.bool tneg)).setCell ⟨gt, 2, none⟩ (.slice tod tld tcd)).setCell ⟨gt, 3, none⟩ (.string tnm)).setCell ⟨gt, 4, none⟩ (.int .i64 tn)).setCell ⟨gt, 5, none⟩ (.slice tol tll tcl)).setCell ⟨gt, 6, none⟩ (.slice tob tlb tcb)) = w68 at *
  have hk118 : w68.heap[gu]? = some (.cells zC 27 (0, 0)) := (onT8.2.2 gu (fun e => hne8 e.symm)).trans k118
  have c68 : Below V8.heap.size V8 w68 := hb58.trans (onT8.below (B := V8.heap.size) hl10.1)
  obtain ⟨f0, f1, f2, f3, f4, f5, f6⟩ := (res7 hk118).res
  have ff := (res7 hk118).fr
  try go_simp
  refine hK.out _ _ ?_ (fun hHeld => ?_)
  · exact hS.out _ (by assumption)
  clear hK K
  try simp (maxSteps := 10000000) only [List.getElem_toArray, List.getElem_cons_succ, List.getElem_cons_zero, Act.put, List.setIfInBounds_toArray, List.set_cons_zero, List.set_cons_succ]
  refine wpAnyH_ready (rs := [13]) (by kernel_rfl) (by simp) ?_
  refine AllReadyH.cons rfl (fun K hK => ?_) AllReadyH.nil
  go_simp
  have onU8 := only_put w68 gu (.int .i64 uk) (.bool uneg) (.slice uod uld ucd) (.string unm) (.int .i64 un) (.slice uol ull ucl) (.slice uob ulb ucb)
  have hgU8 : (((((((w68.setCell ⟨gu, 0, none⟩ (.int .i64 uk)).setCell ⟨gu, 1, none⟩ (.bool uneg)).setCell ⟨gu, 2, none⟩ (.slice uod uld ucd)).setCell ⟨gu, 3, none⟩ (.string unm)).setCell ⟨gu, 4, none⟩ (.int .i64 un)).setCell ⟨gu, 5, none⟩ (.slice uol ull ucl)).setCell ⟨gu, 6, none⟩ (.slice uob ulb ucb)).heap[gu]? = some (.cells #[.int .i64 uk, .bool uneg, .slice uod uld ucd, .string unm, .int .i64 un, .slice uol ull ucl, .slice uob ulb ucb] 27 (0, 0)) := heap_put7 hk118 (.int .i64 uk) (.bool uneg) (.slice uod uld ucd) (.string unm) (.int .i64 un) (.slice uol ull ucl) (.slice uob ulb ucb)
  clear f0 f1 f2 f3 f4 f5 f6 ff
  generalize (((((((w68.setCell ⟨gu, 0, none⟩ (.int .i64 uk)).setCell ⟨gu, 1, none⟩ (.bool uneg)).setCell ⟨gu, 2, none⟩ (.slice uod uld ucd)).setCell ⟨gu, 3, none⟩ (.string unm)).setCell ⟨gu, 4, none⟩ (.int .i64 un)).setCell ⟨gu, 5, none⟩ (.slice uol ull ucl)).setCell ⟨gu, 6, none⟩ (.slice uob ulb ucb)) = w78 at *
  have hgT'8 : w78.heap[gt]? = some (.cells #[.int .i64 tk, .bool tneg, .slice tod tld tcd, .string tnm, .int .i64 tn, .slice tol tll tcl, .slice tob tlb tcb] 27 (0, 0)) := (onU8.2.2 gt hne8).trans hgT8
  have c78 : Below V8.heap.size V8 w78 := c68.trans (onU8.below (B := V8.heap.size) hl11.1)
  have tT8 := tv_low (TV.zs (w' := w78) (fun k hk => (onU8.2.2 k hk.2.2).trans (onT8.2.2 k hk.2.1)) _ _ hT4)
  have tU8 := tv_low (TV.zs (w' := w78) (fun k hk => (onU8.2.2 k hk.2.2).trans (onT8.2.2 k hk.2.1)) _ _ hT9)
  try go_simp
  refine hK.out _ _ ?_ (fun hHeld => ?_)
  · exact hS.out _ (by assumption)
  clear hK K
  try simp (maxSteps := 10000000) only [List.getElem_toArray, List.getElem_cons_succ, List.getElem_cons_zero, Act.put, List.setIfInBounds_toArray, List.set_cons_zero, List.set_cons_succ]
  refine wpAnyH_done (by kernel_rfl) ?_ _
  clear hS hlR hAr hUr hHeld
  subst hV8
  have dd8 : Below w4.heap.size w4 w78 := below_and dV8 (Nat.le_refl _) c78
  have kAw78 := kAw4.below dd8
  have kBw78 := kBw4.below dd8
  have Bw78 := below_and Bw4 (Nat.le_refl _) dd8
  have hzw78 : w.heap.size + 2 ≤ w78.heap.size := by have := dd8.size; omega
  clear kAw4 kBw4 Bw4 hzw4 hz8 B8 dV8 c68 c78 onT8 onU8 hk118 k108 k118 hgT8 hb58 hl10 hl11 hT4 hT9 hne8
  have dV9 : Below w78.heap.size w78 w78.drew := (Below.refl _ w78).drew
  have hz9 : w.heap.size + 2 ≤ w78.drew.heap.size := hzw78
  have hS : Hid (∀ w', Below w78.drew.heap.size w78.drew w' → (w'.cell? ⟨w.heap.size, 0, none⟩ = some (.int .i64 ak) ∧ w'.cell? ⟨w.heap.size, 1, none⟩ = some (.bool aneg) ∧ w'.cell? ⟨w.heap.size, 2, none⟩ = some (.slice aod ald acd) ∧ w'.cell? ⟨w.heap.size, 3, none⟩ = some (.string anm) ∧ w'.cell? ⟨w.heap.size, 4, none⟩ = some (.int .i64 an) ∧ w'.cell? ⟨w.heap.size, 5, none⟩ = some (.slice aol all acl) ∧ w'.cell? ⟨w.heap.size, 6, none⟩ = some (.slice aob alb acb) ∧ w'.cell? ⟨w.heap.size + 1, 0, none⟩ = some (.int .i64 bk) ∧ w'.cell? ⟨w.heap.size + 1, 1, none⟩ = some (.bool bneg) ∧ w'.cell? ⟨w.heap.size + 1, 2, none⟩ = some (.slice bod bld bcd) ∧ w'.cell? ⟨w.heap.size + 1, 3, none⟩ = some (.string bnm) ∧ w'.cell? ⟨w.heap.size + 1, 4, none⟩ = some (.int .i64 bn) ∧ w'.cell? ⟨w.heap.size + 1, 5, none⟩ = some (.slice bol bll bcl) ∧ w'.cell? ⟨w.heap.size + 1, 6, none⟩ = some (.slice bob blb bcb))) := hid (fun w' hb => by
    obtain ⟨t0, t1, t2, t3, t4, t5, t6⟩ := ((kAw78.below dV9).below hb).res
    obtain ⟨u0, u1, u2, u3, u4, u5, u6⟩ := ((kBw78.below dV9).below hb).res
    exact ⟨t0, t1, t2, t3, t4, t5, t6, u0, u1, u2, u3, u4, u5, u6⟩)
  have B9 : Below w.heap.size w w78.drew := below_and Bw78 (Nat.le_refl _) dV9
  have hlR := hid (fun w' (hb : Below w78.drew.heap.size w78.drew w') => TR.mono (Z' := fun k => k < w78.drew.heap.size) (fun k _ hk => by have : k < w.heap.size := hk; omega) _ _ (TR.zs (fun k hk => (below_and B9 (Nat.le_refl _) hb).block k hk) _ _ hLl.out))
  have hAr := hid (fun w' (hb : Below w78.drew.heap.size w78.drew w') => TV.mono (Z' := fun k => k < w78.drew.heap.size) (fun k _ hk => by have : k < w.heap.size := hk; omega) _ _ (TV.zs (fun k hk => (below_and B9 (Nat.le_refl _) hb).block k hk) _ _ hA0.out))
  have hUr := hid (fun w' (hb : Below w78.drew.heap.size w78.drew w') => TV.mono (Z' := fun k => k < w78.drew.heap.size) (fun k _ hk => by have : k < w.heap.size := hk; omega) _ _ (TV.zs (fun k hk => (below_and B9 (Nat.le_refl _) hb).block k hk) _ _ hU0.out))
  go_upto_region 9 with fail
  refine wp_region_held_drew (S := fun w' => w'.cell? ⟨w.heap.size, 0, none⟩ = some (.int .i64 ak) ∧ w'.cell? ⟨w.heap.size, 1, none⟩ = some (.bool aneg) ∧ w'.cell? ⟨w.heap.size, 2, none⟩ = some (.slice aod ald acd) ∧ w'.cell? ⟨w.heap.size, 3, none⟩ = some (.string anm) ∧ w'.cell? ⟨w.heap.size, 4, none⟩ = some (.int .i64 an) ∧ w'.cell? ⟨w.heap.size, 5, none⟩ = some (.slice aol all acl) ∧ w'.cell? ⟨w.heap.size, 6, none⟩ = some (.slice aob alb acb) ∧ w'.cell? ⟨w.heap.size + 1, 0, none⟩ = some (.int .i64 bk) ∧ w'.cell? ⟨w.heap.size + 1, 1, none⟩ = some (.bool bneg) ∧ w'.cell? ⟨w.heap.size + 1, 2, none⟩ = some (.slice bod bld bcd) ∧ w'.cell? ⟨w.heap.size + 1, 3, none⟩ = some (.string bnm) ∧ w'.cell? ⟨w.heap.size + 1, 4, none⟩ = some (.int .i64 bn) ∧ w'.cell? ⟨w.heap.size + 1, 5, none⟩ = some (.slice bol bll bcl) ∧ w'.cell? ⟨w.heap.size + 1, 6, none⟩ = some (.slice bob blb bcb)) (by kernel_rfl) (by exact hS.out _ (Below.refl _ _)) (fun hHeld => ?_)
  obtain ⟨V9, hV9⟩ : ∃ x, x = w78.drew := ⟨_, rfl⟩
  rw [← hV9] at hS hlR hAr hUr hz9 B9 hHeld ⊢
  refine wpAnyH_take (i := 0) (oi := _) (v := ?_) rfl (by kernel_rfl) (by kernel_rfl) (by kernel_rfl) (fun _ _ _ h => h) (Or.inl ⟨by rfl, ?_⟩) (by assumption) ?_
  rotate_left 1
  · (intro w hSw; (try dsimp only at hSw); go_simp; try with_reducible rfl)
  try simp (maxSteps := 10000000) only [List.getElem_toArray, List.getElem_cons_succ, List.getElem_cons_zero, Act.put, List.setIfInBounds_toArray, List.set_cons_zero, List.set_cons_succ]
  refine wpAnyH_take (i := 2) (oi := _) (v := ?_) rfl (by kernel_rfl) (by kernel_rfl) (by kernel_rfl) (fun _ _ _ h => h) (Or.inl ⟨by rfl, ?_⟩) (by assumption) ?_
  rotate_left 1
  · (intro w hSw; (try dsimp only at hSw); go_simp; try with_reducible rfl)
  try simp (maxSteps := 10000000) only [List.getElem_toArray, List.getElem_cons_succ, List.getElem_cons_zero, Act.put, List.setIfInBounds_toArray, List.set_cons_zero, List.set_cons_succ]
  refine wpAnyH_take (i := 5) (oi := _) (v := ?_) rfl (by kernel_rfl) (by kernel_rfl) (by kernel_rfl) (fun _ _ _ h => h) (Or.inl ⟨by rfl, ?_⟩) (by assumption) ?_
  rotate_left 1
  · (intro w hSw; (try dsimp only at hSw); go_simp; try with_reducible rfl)
  try simp (maxSteps := 10000000) only [List.getElem_toArray, List.getElem_cons_succ, List.getElem_cons_zero, Act.put, List.setIfInBounds_toArray, List.set_cons_zero, List.set_cons_succ]
  refine wpAnyH_take (i := 7) (oi := _) (v := ?_) rfl (by kernel_rfl) (by kernel_rfl) (by kernel_rfl) (fun _ _ _ h => h) (Or.inl ⟨by rfl, ?_⟩) (by assumption) ?_
  rotate_left 1
  · (intro w hSw; (try dsimp only at hSw); go_simp; try with_reducible rfl)
  try simp (maxSteps := 10000000) only [List.getElem_toArray, List.getElem_cons_succ, List.getElem_cons_zero, Act.put, List.setIfInBounds_toArray, List.set_cons_zero, List.set_cons_succ]
  refine wpAnyH_at (m' := 10) (listed' := #[true, false, true, false, false, true, false, true, false, false, false, false, false, false]) (by kernel_rfl) (by kernel_rfl) ?_
  refine wpAnyH_name fun a0 ha0 => ?_
  refine wpAnyH_kd (A := fun s => { tmps := #[tmV ak aneg (Value.slice aod ald acd) anm an (Value.slice aol all acl) (Value.slice aob alb acb), tmV bk bneg (Value.slice bod bld bcd) bnm bn (Value.slice bol bll bcl) (Value.slice bob blb bcb), Value.slice o l.length c, Value.pointer (some ⟨w.heap.size, 0, none⟩), Value.pointer (some ⟨w.heap.size + 1, 0, none⟩), undef, Value.bool false, Value.int IntKind.i64 X, pt gt, pt gu, s.x10, s.x11, undef, Value.bool true, Value.bool false, Value.agg #[Value.int IntKind.i64 ak, Value.bool aneg, Value.slice aod ald acd, Value.string anm, Value.int IntKind.i64 an, Value.slice aol all acl, Value.slice aob alb acb], Value.agg #[Value.int IntKind.i64 bk, Value.bool bneg, Value.slice bod bld bcd, Value.string bnm, Value.int IntKind.i64 bn, Value.slice bol bll bcl, Value.slice bob blb bcb], Value.slice (some ⟨w1.heap.size, 0, none⟩) 2 2, Value.bool true, Value.bool false, Value.bool false, Value.slice o l.length c, Value.bool true, Value.bool false, Value.bool false, Value.agg #[Value.int IntKind.i64 ak, Value.bool aneg, Value.slice aod ald acd, Value.string anm, Value.int IntKind.i64 an, Value.slice aol all acl, Value.slice aob alb acb], Value.agg #[Value.int IntKind.i64 bk, Value.bool bneg, Value.slice bod bld bcd, Value.string bnm, Value.int IntKind.i64 bn, Value.slice bol bll bcl, Value.slice bob blb bcb], Value.int IntKind.i64 X, u28, u29, u30, u31, u32, u33, u34, u35, u36, u37, u38, u39, u40, u41, Value.bool false, Value.agg #[Value.int IntKind.i64 ak, Value.bool aneg, Value.slice aod ald acd, Value.string anm, Value.int IntKind.i64 an, Value.slice aol all acl, Value.slice aob alb acb], x1, Value.slice o l.length c, x3, tmV tk tneg (Value.slice tod tld tcd) tnm tn (Value.slice tol tll tcl) (Value.slice tob tlb tcb), Value.agg #[Value.int IntKind.i64 bk, Value.bool bneg, Value.slice bod bld bcd, Value.string bnm, Value.int IntKind.i64 bn, Value.slice bol bll bcl, Value.slice bob blb bcb], x6, Value.slice o l.length c, x8, tmV uk uneg (Value.slice uod uld ucd) unm un (Value.slice uol ull ucl) (Value.slice uob ulb ucb), Value.agg #[Value.int IntKind.i64 ak, Value.bool aneg, Value.slice aod ald acd, Value.string anm, Value.int IntKind.i64 an, Value.slice aol all acl, Value.slice aob alb acb], s.x1, Value.slice o l.length c, s.x3, s.x4, Value.agg #[Value.int IntKind.i64 bk, Value.bool bneg, Value.slice bod bld bcd, Value.string bnm, Value.int IntKind.i64 bn, Value.slice bol bll bcl, Value.slice bob blb bcb], s.x6, Value.slice o l.length c, s.x8, s.x9, undef, undef, undef, undef, undef, undef, undef, undef, undef, undef, undef, undef, undef, undef, undef, undef, undef, undef, undef, undef, undef, undef, undef, undef, undef, undef, undef, undef, undef, undef, undef, undef, undef, undef, undef, undef, undef, undef, undef, undef, undef, undef, undef, undef, undef, undef, undef, undef], defers := [] }) (R := Rk V9 A U l #[.int .i64 ak, .bool aneg, .slice aod ald acd, .string anm, .int .i64 an, .slice aol all acl, .slice aob alb acb] #[.int .i64 bk, .bool bneg, .slice bod bld bcd, .string bnm, .int .i64 bn, .slice bol bll bcl, .slice bob blb bcb] listT) ?_ (fun s w h => h.ok) ?_ ?_ ?_ ?_ ?_ ?_ ?_ ?_ ?_ _ _ undef undef undef undef undef undef undef undef ?_ ?_
  · kernel_rfl
  · intro s w' hR h0
    refine wpOp_step rfl (fun K' hK => ?_)
    have hK' := shutO hK
    clear hK
    go_simp
    refine hK'.out _ _ ⟨_, ?_, hR.n1 h0, hS.out _ (hR.n1 h0).bel⟩
    rfl
  · intro s w' hR h0 e1
    obtain ⟨l1, l3, l4, l6, l8, l9, l10, l11, x1, x3, x4, x6, x8, x9, x10, x11⟩ := s
    dsimp only at h0 e1
    obtain ⟨g1, hx1, hg1⟩ := hR.h1 e1 h0
    dsimp only at hx1
    subst hx1
    have hB1' := (hR.lt g1 (.inl ⟨h0, rfl⟩)).1
    obtain ⟨v2, w2, ys, hr2, hO2, hRC2, hgr2, hat2⟩ := ap2_run w' V9.heap.size g1 1 _ o c l (own_one hB1' hg1) hR.bel.size (by omega) (by omega) (hlR.out _ hR.bel)
    rw [Nat.add_comm] at hO2
    have hRC3 := RC.cat (l := [A]) (xs := [.int .i64 ak, .bool aneg, .slice aod ald acd, .string anm, .int .i64 an, .slice aol all acl, .slice aob alb acb]) ⟨ak, aneg, aod, ald, acd, anm, an, aol, all, acl, aob, alb, acb, [], hAr.out _ hR.bel, rfl, rfl⟩ hRC2
    have hR3 := hR.a3 e1 h0 hRC3 hO2 hgr2 hat2
    refine wpOp_step rfl (fun K' hK => ?_)
    have hK' := shutO hK
    clear hK
    refine step_append_run rfl _ _ 24 rfl (.slice (some ⟨g1, 0, none⟩) 1 1) (.slice o l.length c) v2 w2 rfl rfl hr2 ?_
    refine hK'.out _ _ ⟨_, ?_, hR3, hS.out _ hR3.bel⟩
    rfl
  · intro s w' hR h0 e3
    obtain ⟨l1, l3, l4, l6, l8, l9, l10, l11, x1, x3, x4, x6, x8, x9, x10, x11⟩ := s
    dsimp only at h0 e3
    obtain ⟨o3, c3, hx3, hTR3⟩ := hR.h3 e3 h0
    dsimp only at hx3
    subst hx3
    refine wpOp_step rfl (fun K' hK => ?_)
    have hK' := shutO hK
    clear hK
    go_simp
    refine (rList_w (A :: l) o3 c3 _ (by simp only [List.length_cons]; omega) hfA.out (tr_low hTR3)).mono ?_
    rintro e w7 ⟨v7, rfl, hT7, b7⟩
    try go_simp
    refine hK'.out _ _ ⟨_, ?_, hR.c4 e3 h0 hT7 b7, hS.out _ (hR.c4 e3 h0 hT7 b7).bel⟩
    rfl
  · intro s w' hR h0
    refine wpOp_step rfl (fun K' hK => ?_)
    have hK' := shutO hK
    clear hK
    go_simp
    refine hK'.out _ _ ⟨_, ?_, hR.n6 h0, hS.out _ (hR.n6 h0).bel⟩
    rfl
  · intro s w' hR h0 e1 e4
    obtain ⟨l1, l3, l4, l6, l8, l9, l10, l11, x1, x3, x4, x6, x8, x9, x10, x11⟩ := s
    dsimp only at h0 e1 e4
    obtain ⟨g1, hx1, hg1⟩ := hR.h6 e1 h0
    dsimp only at hx1
    subst hx1
    have hB1' := (hR.lt g1 (.inr (.inl ⟨h0, rfl⟩))).1
    obtain ⟨v2, w2, ys, hr2, hO2, hRC2, hgr2, hat2⟩ := ap2_run w' V9.heap.size g1 1 _ o c l (own_one hB1' hg1) hR.bel.size (by omega) (by omega) (hlR.out _ hR.bel)
    rw [Nat.add_comm] at hO2
    have hRC3 := RC.cat (l := [U]) (xs := [.int .i64 bk, .bool bneg, .slice bod bld bcd, .string bnm, .int .i64 bn, .slice bol bll bcl, .slice bob blb bcb]) ⟨bk, bneg, bod, bld, bcd, bnm, bn, bol, bll, bcl, bob, blb, bcb, [], hUr.out _ hR.bel, rfl, rfl⟩ hRC2
    have hR3 := hR.a8 e1 h0 e4 hRC3 hO2 hgr2 hat2
    refine wpOp_step rfl (fun K' hK => ?_)
    have hK' := shutO hK
    clear hK
    refine step_append_run rfl _ _ 24 rfl (.slice (some ⟨g1, 0, none⟩) 1 1) (.slice o l.length c) v2 w2 rfl rfl hr2 ?_
    refine hK'.out _ _ ⟨_, ?_, hR3, hS.out _ hR3.bel⟩
    rfl
  · intro s w' hR h0 e3
    obtain ⟨l1, l3, l4, l6, l8, l9, l10, l11, x1, x3, x4, x6, x8, x9, x10, x11⟩ := s
    dsimp only at h0 e3
    obtain ⟨o3, c3, hx3, hTR3⟩ := hR.h8 e3 h0
    dsimp only at hx3
    subst hx3
    refine wpOp_step rfl (fun K' hK => ?_)
    have hK' := shutO hK
    clear hK
    go_simp
    refine (rList_w (U :: l) o3 c3 _ (by simp only [List.length_cons]; omega) hfU.out (tr_low hTR3)).mono ?_
    rintro e w7 ⟨v7, rfl, hT7, b7⟩
    try go_simp
    refine hK'.out _ _ ⟨_, ?_, hR.c9 e3 h0 hT7 b7, hS.out _ (hR.c9 e3 h0 hT7 b7).bel⟩
    rfl
  · intro s w' hR h0
    refine wpOp_step rfl (fun K' hK => ?_)
    have hK' := shutO hK
    clear hK
    go_simp
    refine hK'.out _ _ ⟨_, ?_, hR.n10 h0, hS.out _ (hR.n10 h0).bel⟩
    rfl
  · intro s w' hR h0
    refine wpOp_step rfl (fun K' hK => ?_)
    have hK' := shutO hK
    clear hK
    go_simp
    refine hK'.out _ _ ⟨_, ?_, hR.n11 h0, hS.out _ (hR.n11 h0).bel⟩
    rfl
  rotate_left 1
  · exact ha0
  · exact { bel := Below.refl _ _, ok := rfl, lt := fun k hp => by rcases hp with ⟨_, e⟩ | ⟨_, e⟩ | e | e <;> (simp [Value.ownBlock, undef, pt] at e), u1 := fun _ => rfl, u6 := fun _ => rfl, u10 := fun _ => rfl, u11 := fun _ => rfl, h1 := fun e => by simp at e, h3 := fun e => by simp at e, h4 := fun e => by simp at e, h6 := fun e => by simp at e, h8 := fun e => by simp at e, h9 := fun e => by simp at e, h10 := fun e => by simp at e, h11 := fun e => by simp at e, d16 := fun k _ e => by simp [Value.ownBlock, undef] at e, d1x := fun k _ e => by simp [Value.ownBlock, undef] at e, d6x := fun k _ e => by simp [Value.ownBlock, undef] at e, dxx := fun k e => by simp [undef, pt] at e }
  intro x1 x3 x4 x6 x8 x9 x10 x11 w59 hR
  obtain ⟨vk, vneg, vod, vld, vcd, vnm, vn, vol, vll, vcl, vob, vlb, vcb, hx4, hT49⟩ := hR.h4 rfl
  obtain ⟨zk, zneg, zod, zld, zcd, znm, zn, zol, zll, zcl, zob, zlb, zcb, hx9, hT99⟩ := hR.h9 rfl
  obtain ⟨gv, hx10, k109⟩ := hR.h10 rfl
  obtain ⟨gz, hx11, k119⟩ := hR.h11 rfl
  have hb59 := hR.bel
  have hl10 := hR.lt gv (.inr (.inr (.inl hx10)))
  have hl11 := hR.lt gz (.inr (.inr (.inr hx11)))
  have hne9 : gv ≠ gz := fun e => hR.dxx gv hx10 (by rw [hx11, e])
  have hn4 : ∀ k, k = gv ∨ k = gz → Pk ⟨true, true, true, true, true, true, true, true, x1, x3, x4, x6, x8, x9, x10, x11⟩ k := fun k hk => by
    rcases hk with rfl | rfl
    · exact .inr (.inr (.inl hx10))
    · exact .inr (.inr (.inr hx11))
  have hT4 := TV.mono (Z' := fun k => k < w59.heap.size ∧ k ≠ gv ∧ k ≠ gz) (fun k _ hz => ⟨hz.1, fun e => hz.2 (hn4 k (.inl e)), fun e => hz.2 (hn4 k (.inr e))⟩) _ _ hT49
  have hT9 := TV.mono (Z' := fun k => k < w59.heap.size ∧ k ≠ gv ∧ k ≠ gz) (fun k _ hz => ⟨hz.1, fun e => hz.2 (hn4 k (.inl e)), fun e => hz.2 (hn4 k (.inr e))⟩) _ _ hT99
  clear hR hn4 hT49 hT99
  dsimp only at hx4 hx9 hx10 hx11
  subst hx4
  subst hx9
  subst hx10
  subst hx11
  clear ha0
  obtain ⟨f0, f1, f2, f3, f4, f5, f6⟩ := (res7 k109).res
  have ff := (res7 k109).fr
  refine wpAnyH_ready (rs := [12]) (by kernel_rfl) (by simp) ?_
  refine AllReadyH.cons rfl (fun K hK => ?_) AllReadyH.nil
  go_simp
  have onT9 := only_put w59 gv (.int .i64 vk) (.bool vneg) (.slice vod vld vcd) (.string vnm) (.int .i64 vn) (.slice vol vll vcl) (.slice vob vlb vcb)
  have hgT9 : (((((((w59.setCell ⟨gv, 0, none⟩ (.int .i64 vk)).setCell ⟨gv, 1, none⟩ (.bool vneg)).setCell ⟨gv, 2, none⟩ (.slice vod vld vcd)).setCell ⟨gv, 3, none⟩ (.string vnm)).setCell ⟨gv, 4, none⟩ (.int .i64 vn)).setCell ⟨gv, 5, none⟩ (.slice vol vll vcl)).setCell ⟨gv, 6, none⟩ (.slice vob vlb vcb)).heap[gv]? = some (.cells #[.int .i64 vk, .bool vneg, .slice vod vld vcd, .string vnm, .int .i64 vn, .slice vol vll vcl, .slice vob vlb vcb] 27 (0, 0)) := heap_put7 k109 (.int .i64 vk) (.bool vneg) (.slice vod vld vcd) (.string vnm) (.int .i64 vn) (.slice vol vll vcl) (.slice vob vlb vcb)
  clear f0 f1 f2 f3 f4 f5 f6 ff
  generalize (((((((w59.setCell ⟨gv, 0, none⟩ (.int .i64 vk)).setCell ⟨gv, 1, none⟩ (.bool vneg)).setCell ⟨gv, 2, none⟩ (.slice vod vld vcd)).setCell ⟨gv, 3, none⟩ (.string vnm)).setCell ⟨gv, 4, none⟩ (.int .i64 vn)).setCell ⟨gv, 5, none⟩ (.slice vol vll vcl)).setCell ⟨gv, 6, none⟩ (.slice vob vlb vcb)) = w69 at *
  have hk119 : w69.heap[gz]? = some (.cells zC 27 (0, 0)) := (onT9.2.2 gz (fun e => hne9 e.symm)).trans k119
  have c69 : Below V9.heap.size V9 w69 := hb59.trans (onT9.below (B := V9.heap.size) hl10.1)
  obtain ⟨f0, f1, f2, f3, f4, f5, f6⟩ := (res7 hk119).res
  have ff := (res7 hk119).fr
  try go_simp
  refine hK.out _ _ ?_ (fun hHeld => ?_)
  · exact hS.out _ (by assumption)
  clear hK K
  try simp (maxSteps := 10000000) only [List.getElem_toArray, List.getElem_cons_succ, List.getElem_cons_zero, Act.put, List.setIfInBounds_toArray, List.set_cons_zero, List.set_cons_succ]
  refine wpAnyH_ready (rs := [13]) (by kernel_rfl) (by simp) ?_
  refine AllReadyH.cons rfl (fun K hK => ?_) AllReadyH.nil
  go_simp
  have onU9 := only_put w69 gz (.int .i64 zk) (.bool zneg) (.slice zod zld zcd) (.string znm) (.int .i64 zn) (.slice zol zll zcl) (.slice zob zlb zcb)
  have hgU9 : (((((((w69.setCell ⟨gz, 0, none⟩ (.int .i64 zk)).setCell ⟨gz, 1, none⟩ (.bool zneg)).setCell ⟨gz, 2, none⟩ (.slice zod zld zcd)).setCell ⟨gz, 3, none⟩ (.string znm)).setCell ⟨gz, 4, none⟩ (.int .i64 zn)).setCell ⟨gz, 5, none⟩ (.slice zol zll zcl)).setCell ⟨gz, 6, none⟩ (.slice zob zlb zcb)).heap[gz]? = some (.cells #[.int .i64 zk, .bool zneg, .slice zod zld zcd, .string znm, .int .i64 zn, .slice zol zll zcl, .slice zob zlb zcb] 27 (0, 0)) := heap_put7 hk119 (.int .i64 zk) (.bool zneg) (.slice zod zld zcd) (.string znm) (.int .i64 zn) (.slice zol zll zcl) (.slice zob zlb zcb)
  clear f0 f1 f2 f3 f4 f5 f6 ff
  generalize (((((((w69.setCell ⟨gz, 0, none⟩ (.int .i64 zk)).setCell ⟨gz, 1, none⟩ (.bool zneg)).setCell ⟨gz, 2, none⟩ (.slice zod zld zcd)).setCell ⟨gz, 3, none⟩ (.string znm)).setCell ⟨gz, 4, none⟩ (.int .i64 zn)).setCell ⟨gz, 5, none⟩ (.slice zol zll zcl)).setCell ⟨gz, 6, none⟩ (.slice zob zlb zcb)) = w79 at *
  have hgT'9 : w79.heap[gv]? = some (.cells #[.int .i64 vk, .bool vneg, .slice vod vld vcd, .string vnm, .int .i64 vn, .slice vol vll vcl, .slice vob vlb vcb] 27 (0, 0)) := (onU9.2.2 gv hne9).trans hgT9
  have c79 : Below V9.heap.size V9 w79 := c69.trans (onU9.below (B := V9.heap.size) hl11.1)
  have tT9 := tv_low (TV.zs (w' := w79) (fun k hk => (onU9.2.2 k hk.2.2).trans (onT9.2.2 k hk.2.1)) _ _ hT4)
  have tU9 := tv_low (TV.zs (w' := w79) (fun k hk => (onU9.2.2 k hk.2.2).trans (onT9.2.2 k hk.2.1)) _ _ hT9)
  try go_simp
  refine hK.out _ _ ?_ (fun hHeld => ?_)
  · exact hS.out _ (by assumption)
  clear hK K
  try simp (maxSteps := 10000000) only [List.getElem_toArray, List.getElem_cons_succ, List.getElem_cons_zero, Act.put, List.setIfInBounds_toArray, List.set_cons_zero, List.set_cons_succ]
  refine wpAnyH_done (by kernel_rfl) ?_ _
  clear hS hlR hAr hUr hHeld
  subst hV9
  have dd9 : Below w78.heap.size w78 w79 := below_and dV9 (Nat.le_refl _) c79
  have kAw79 := kAw78.below dd9
  have kBw79 := kBw78.below dd9
  have Bw79 := below_and Bw78 (Nat.le_refl _) dd9
  have hzw79 : w.heap.size + 2 ≤ w79.heap.size := by have := dd9.size; omega
  clear kAw78 kBw78 Bw78 hzw78 hz9 B9 dV9 c69 c79 onT9 onU9 hk119 k109 k119 hgT9 hb59 hl10 hl11 hT4 hT9 hne9
  have BB : Below w.heap.size w w79 := Bw79
  have ht := blk_on' hgT'8 dd9
  have hu := blk_on' hgU8 dd9
  have tt := tv_below tT8 dd9
  have tu := tv_below tU8 dd9
  have hokA := hid (fun p hp => (hfA.out p hp).1)
  have hokU := hid (fun p hp => (hfU.out p hp).1)
  have hlA : (A :: l).length ≤ 1000000 := by simp only [List.length_cons]; omega
  have hlU : (U :: l).length ≤ 1000000 := by simp only [List.length_cons]; omega
  have d0 : Below w79.heap.size w79 w79 := Below.refl _ _
  have hzz := hzw79
  obtain ⟨x0, x1, x2, x3, x4, x5, x6⟩ := (res7 (blk_on' ht d0)).res
  go_wp2_with fail
  clear x0 x1 x2 x3 x4 x5 x6
  obtain ⟨m1, hm1⟩ : ∃ m, mayB (tupT (A :: l)) = m := ⟨_, rfl⟩
  refine (rMay_w (tupT (A :: l)) _ _ (ok_tup hlA hokA.out) (tv_below tt d0) (hTa.out _ (below_and BB (Nat.le_refl _) d0))).mono ?_
  rw [hm1]
  rintro e q1 ⟨rfl, r1⟩
  have d1 : Below w79.heap.size w79 q1 := below_and d0 (Nat.le_refl _) r1
  clear hm1 r1
  cases m1 with
  | false =>
    go_wp2
    go_ret
    exact ⟨rfl, below_and BB (Nat.le_refl _) d1⟩
  | true =>
  obtain ⟨x0, x1, x2, x3, x4, x5, x6⟩ := (res7 (blk_on' hu d1)).res
  go_wp2_with fail
  clear x0 x1 x2 x3 x4 x5 x6
  obtain ⟨m2, hm2⟩ : ∃ m, mayB (tupT (U :: l)) = m := ⟨_, rfl⟩
  refine (rMay_w (tupT (U :: l)) _ _ (ok_tup hlU hokU.out) (tv_below tu d1) (hTa.out _ (below_and BB (Nat.le_refl _) d1))).mono ?_
  rw [hm2]
  rintro e q2 ⟨rfl, r2⟩
  have d2 : Below w79.heap.size w79 q2 := below_and d1 (Nat.le_refl _) r2
  clear hm2 r2
  cases m2 with
  | false =>
    go_wp2
    go_ret
    exact ⟨rfl, below_and BB (Nat.le_refl _) d2⟩
  | true =>
  obtain ⟨x0, x1, x2, x3, x4, x5, x6⟩ := (res7 (blk_on' hgT'9 d2)).res
  go_wp2_with fail
  clear x0 x1 x2 x3 x4 x5 x6
  obtain ⟨m3, hm3⟩ : ∃ m, mayB (listT (A :: l)) = m := ⟨_, rfl⟩
  refine (rMay_w (listT (A :: l)) _ _ (ok_list hokA.out) (tv_below tT9 d2) (hTa.out _ (below_and BB (Nat.le_refl _) d2))).mono ?_
  rw [hm3]
  rintro e q3 ⟨rfl, r3⟩
  have d3 : Below w79.heap.size w79 q3 := below_and d2 (Nat.le_refl _) r3
  clear hm3 r3
  cases m3 with
  | false =>
    go_wp2
    go_ret
    exact ⟨rfl, below_and BB (Nat.le_refl _) d3⟩
  | true =>
  obtain ⟨x0, x1, x2, x3, x4, x5, x6⟩ := (res7 (blk_on' hgU9 d3)).res
  go_wp2_with fail
  clear x0 x1 x2 x3 x4 x5 x6
  obtain ⟨m4, hm4⟩ : ∃ m, mayB (listT (U :: l)) = m := ⟨_, rfl⟩
  refine (rMay_w (listT (U :: l)) _ _ (ok_list hokU.out) (tv_below tU9 d3) (hTa.out _ (below_and BB (Nat.le_refl _) d3))).mono ?_
  rw [hm4]
  rintro e q4 ⟨rfl, r4⟩
  have d4 : Below w79.heap.size w79 q4 := below_and d3 (Nat.le_refl _) r4
  clear hm4 r4
  cases m4 with
  | false =>
    go_wp2
    go_ret
    exact ⟨rfl, below_and BB (Nat.le_refl _) d4⟩
  | true =>
  go_wp2_with fail
  refine (rInt_w (-9) _ (by omega) (by omega)).mono ?_
  rintro e q5 ⟨v5, rfl, hV5, hg5, r5⟩
  have d5 : Below w79.heap.size w79 q5 := below_and d4 (Nat.le_refl _) r5
  have hI5 := tv_low hV5
  obtain ⟨rk, rneg, rod, rld, rcd, rnm, rn, rol, rll, rcl, rob, rlb, rcb, rfl⟩ := hV5.form
  clear hV5 r5
  go_wp2_with fail
  refine (rInt_w 0 _ (by omega) (by omega)).mono ?_
  rintro e q6 ⟨v6, rfl, hV6, hg6, r6⟩
  have d6 : Below w79.heap.size w79 q6 := below_and d5 (Nat.le_refl _) r6
  have hI6 := tv_low hV6
  have hI56 := tv_below hI5 r6
  obtain ⟨jk, jneg, jod, jld, jcd, jnm, jn, jol, jll, jcl, job, jlb, jcb, rfl⟩ := hV6.form
  clear hV6 r6 hI5
  have bN : Below q6.heap.size q6 (q6.alloc (.cells #[.int .i64 rk, .bool rneg, .slice rod rld rcd, .string rnm, .int .i64 rn, .slice rol rll rcl, .slice rob rlb rcb, .int .i64 jk, .bool jneg, .slice jod jld jcd, .string jnm, .int .i64 jn, .slice jol jll jcl, .slice job jlb jcb] 27)) := (Below.refl _ _).alloc (Nat.le_refl _) _
  have hnw := heap_alloc_new q6 (.cells #[.int .i64 rk, .bool rneg, .slice rod rld rcd, .string rnm, .int .i64 rn, .slice rol rll rcl, .slice rob rlb rcb, .int .i64 jk, .bool jneg, .slice jod jld jcd, .string jnm, .int .i64 jn, .slice jol jll jcl, .slice job jlb jcb] 27)
  have B6 := below_and BB (Nat.le_refl _) d6
  have hlT : TR (fun k => k < q6.heap.size) (q6.alloc (.cells #[.int .i64 rk, .bool rneg, .slice rod rld rcd, .string rnm, .int .i64 rn, .slice rol rll rcl, .slice rob rlb rcb, .int .i64 jk, .bool jneg, .slice jod jld jcd, .string jnm, .int .i64 jn, .slice jol jll jcl, .slice job jlb jcb] 27)) l o := TR.mono (fun k _ hk => Nat.lt_of_lt_of_le (show k < w.heap.size from hk) B6.size) _ _ (TR.zs (fun k hk => (below_and B6 (Nat.le_refl _) bN).block k hk) _ _ hLl.out)
  obtain ⟨v7, w7, ys, hr7, hO7, hRC7, hgr7, hat7⟩ := ap2_run _ q6.heap.size q6.heap.size 2 _ o c l (own_two (Nat.le_refl _) hnw) (by simp) (by omega) (by omega) hlT
  have hRCa : RC (fun k => k < q6.heap.size) (q6.alloc (.cells #[.int .i64 rk, .bool rneg, .slice rod rld rcd, .string rnm, .int .i64 rn, .slice rol rll rcl, .slice rob rlb rcb, .int .i64 jk, .bool jneg, .slice jod jld jcd, .string jnm, .int .i64 jn, .slice jol jll jcl, .slice job jlb jcb] 27)) ([intT (-9), intT 0] ++ l) ([.int .i64 rk, .bool rneg, .slice rod rld rcd, .string rnm, .int .i64 rn, .slice rol rll rcl, .slice rob rlb rcb, .int .i64 jk, .bool jneg, .slice jod jld jcd, .string jnm, .int .i64 jn, .slice jol jll jcl, .slice job jlb jcb] ++ ys) := RC.cat (l := [intT (-9), intT 0]) ⟨rk, rneg, rod, rld, rcd, rnm, rn, rol, rll, rcl, rob, rlb, rcb, _, TV.zs (fun k hk => bN.block k hk) _ _ hI56, rfl, ⟨jk, jneg, jod, jld, jcd, jnm, jn, jol, jll, jcl, job, jlb, jcb, _, TV.zs (fun k hk => bN.block k hk) _ _ hI6, rfl, rfl⟩⟩ hRC7
  have B7 : Below q6.heap.size q6 w7 := bN.trans ⟨hgr7.os, hgr7.tape, hgr7.output, hgr7.size, fun k hk => hgr7.block k (by simp; omega) (fun e => by simp only [Option.some.injEq] at e; omega)⟩
  obtain ⟨o7, c7, rfl, hc7⟩ := own_sl hO7
  have hTR7 : TR (Low w7) w7 ([intT (-9), intT 0] ++ l) o7 := by
    have hlen : 2 + l.length = ([intT (-9), intT 0] ++ l).length := by simp; omega
    rw [hlen] at hO7
    exact own_trz hO7 (RC.mono (fun k hk _ => hk) (hRCa.zs (w' := w7) (fun k hk => (B7.block k hk).trans (bN.block k hk).symm))) (fun g _ _ hg => hg)
  have hlen : 2 + l.length = (intT (-9) :: intT 0 :: l).length := by simp only [List.length_cons]; omega
  have hfM : Hid (∀ p ∈ partsL (intT (-9) :: intT 0 :: l), p.ok1 ∧ fairB p = true) := hid (fun p hp => by
    simp only [partsL, parts_int, List.mem_append, List.mem_cons, List.not_mem_nil, or_false] at hp
    rcases hp with rfl | rfl | hp
    · exact ⟨(wf_int (-9) (by omega)).self.2.2.2.2, by rw [fairB_int]; exact decide_eq_true (by omega)⟩
    · exact ⟨(wf_int 0 (by omega)).self.2.2.2.2, by rw [fairB_int]; exact decide_eq_true (by omega)⟩
    · exact hfl2.out p hp)
  have hwM : Hid (wfL (intT (-9) :: intT 0 :: l)) := hid (wfL.cons (wf_int (-9) (by omega)) (wfL.cons (wf_int 0 (by omega)) hwl.out))
  have d7 : Below w79.heap.size w79 w7 := below_and d6 (Nat.le_refl _) B7
  go_wp2_with (at_builtin; refine wpList_append_run rfl _ _ 24 rfl _ _ _ _ rfl rfl hr7 ?_)
  clear hr7 hO7 hRC7 hgr7 hat7 hRCa bN hnw hlT
  clear hlen
  refine (rTuple_w (intT (-9) :: intT 0 :: l) o7 c7 _ (by simp only [List.length_cons]; omega) hfM.out hTR7).mono ?_
  rintro e q8 ⟨v8, rfl, hV8, r8⟩
  have d8 : Below w79.heap.size w79 q8 := below_and d7 (Nat.le_refl _) r8
  have hM8 := tv_low hV8
  obtain ⟨mk, mneg, mod, mld, mcd, mnm, mn, mol, mll, mcl, mob, mlb, mcb, rfl⟩ := hV8.form
  clear hV8 r8
  have bM : Below q8.heap.size q8 (q8.alloc (.cells #[.int .i64 mk, .bool mneg, .slice mod mld mcd, .string mnm, .int .i64 mn, .slice mol mll mcl, .slice mob mlb mcb] 27)) := (Below.refl _ _).alloc (Nat.le_refl _) _
  have hm := heap_alloc_new q8 (.cells #[.int .i64 mk, .bool mneg, .slice mod mld mcd, .string mnm, .int .i64 mn, .slice mol mll mcl, .slice mob mlb mcb] 27)
  have tm := tv_below hM8 bM
  have d9 : Below w79.heap.size w79 (q8.alloc (.cells #[.int .i64 mk, .bool mneg, .slice mod mld mcd, .string mnm, .int .i64 mn, .slice mol mll mcl, .slice mob mlb mcb] 27)) := below_and d8 (Nat.le_refl _) bM
  go_upto_region 13 with fail
  generalize (q8.alloc (.cells #[.int .i64 mk, .bool mneg, .slice mod mld mcd, .string mnm, .int .i64 mn, .slice mol mll mcl, .slice mob mlb mcb] 27)) = q9 at *
  have hdA : depL (A :: l) ≤ 9 := by have h1 := hdp'.out; have h2 := hfld.out; simp only [depL] at h1 ⊢; omega
  have hwtA := wf_tupT hlA (wfL.cons hwA.out.1 hwl.out)
  have hwtU := wf_tupT hlU (wfL.cons hwU.out.1 hwl.out)
  have hwlA := wf_listT (wfL.cons hwA.out.1 hwl.out)
  have hwlU := wf_listT (wfL.cons hwU.out.1 hwl.out)
  have hwtM := wf_tupT (l := intT (-9) :: intT 0 :: l) (by simp only [List.length_cons]; omega) hwM.out
  have hdt : dep (tupT (A :: l)) ≤ 1000000 := by rw [dep_tup]; omega
  have hdl : dep (listT (A :: l)) ≤ 1000000 := by have := dep_list (A :: l); simp only [List.length_cons] at this; omega
  have Hd := hid (And.intro hdt hdl)
  have HW := hid (And.intro hwtA (And.intro hwtU (And.intro hwlA (And.intro hwlU hwtM))))
  clear hdA hwtA hwtU hwlA hwlU hwtM hdt hdl bM
  obtain ⟨x0, x1, x2, x3, x4, x5, x6⟩ := (res7 (blk_on' ht d9)).res
  obtain ⟨y0, y1, y2, y3, y4, y5, y6⟩ := (res7 (blk_on' hu d9)).res
  go_wp2_with fail
  clear x0 x1 x2 x3 x4 x5 x6 y0 y1 y2 y3 y4 y5 y6
  refine (Compare_o (tupT (A :: l)) (tupT (U :: l)) _ _ _ (tv_below tt d9) (tv_below tu d9) HW.out.1 HW.out.2.1 (Hd.out.1) (hTa.out _ (below_and BB (Nat.le_refl _) d9))).mono ?_
  rw [cT_tup, HX.out]
  rintro e p1 ⟨rfl, s1⟩
  have e1 : Below w79.heap.size w79 p1 := below_and d9 (Nat.le_refl _) s1
  obtain ⟨x0, x1, x2, x3, x4, x5, x6⟩ := (res7 (blk_on' hgT'9 e1)).res
  obtain ⟨y0, y1, y2, y3, y4, y5, y6⟩ := (res7 (blk_on' hgU9 e1)).res
  go_wp2_with fail
  clear x0 x1 x2 x3 x4 x5 x6 y0 y1 y2 y3 y4 y5 y6
  refine (Compare_o (listT (A :: l)) (listT (U :: l)) _ _ _ (tv_below tT9 e1) (tv_below tU9 e1) HW.out.2.2.1 HW.out.2.2.2.1 (Hd.out.2) (hTa.out _ (below_and BB (Nat.le_refl _) e1))).mono ?_
  rw [cT_list, HX.out]
  rintro e p2 ⟨rfl, s2⟩
  have e2 : Below w79.heap.size w79 p2 := below_and e1 (Nat.le_refl _) s2
  have hm2 := blk_on' (blk_on' hm s1) s2
  have tm2 := tv_below (tv_below tm s1) s2
  obtain ⟨x0, x1, x2, x3, x4, x5, x6⟩ := (res7 (blk_on' ht e2)).res
  obtain ⟨y0, y1, y2, y3, y4, y5, y6⟩ := (res7 (hm2)).res
  go_wp2_with fail
  clear x0 x1 x2 x3 x4 x5 x6 y0 y1 y2 y3 y4 y5 y6
  refine (Compare_o (tupT (A :: l)) (tupT (intT (-9) :: intT 0 :: l)) _ _ _ (tv_below tt e2) (tm2) HW.out.1 HW.out.2.2.2.2 (Hd.out.1) (hTa.out _ (below_and BB (Nat.le_refl _) e2))).mono ?_
  rw [cT_more]
  rintro e p3 ⟨rfl, s3⟩
  have e3 : Below w79.heap.size w79 p3 := below_and e2 (Nat.le_refl _) s3
  obtain ⟨x0, x1, x2, x3, x4, x5, x6⟩ := (res7 (blk_on' ht e3)).res
  obtain ⟨y0, y1, y2, y3, y4, y5, y6⟩ := (res7 (blk_on' hgT'9 e3)).res
  go_wp2_with fail
  clear x0 x1 x2 x3 x4 x5 x6 y0 y1 y2 y3 y4 y5 y6
  refine (Compare_o (tupT (A :: l)) (listT (A :: l)) _ _ _ (tv_below tt e3) (tv_below tT9 e3) HW.out.1 HW.out.2.2.1 (Hd.out.1) (hTa.out _ (below_and BB (Nat.le_refl _) e3))).mono ?_
  rw [cT_tl]
  rintro e p4 ⟨rfl, s4⟩
  have e4 : Below w79.heap.size w79 p4 := below_and e3 (Nat.le_refl _) s4
  go_wp2
  go_ret
  exact ⟨rfl, below_and BB (Nat.le_refl _) e4⟩
end Go.Proofs.YtgaecjocolihjaaDoor.orderKinds
