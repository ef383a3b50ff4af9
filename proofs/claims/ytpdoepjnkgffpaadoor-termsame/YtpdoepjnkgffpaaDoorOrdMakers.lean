/- The reference's makers of small terms; awake. -/
import Derived.Test.YtpdoepjnkgffpaaDoorOrdRCmp
import Derived.Test.YtpdoepjnkgffpaaDoorTermRooms
namespace Go.Proofs.YtpdoepjnkgffpaaDoor
open Go.ChangeShapes Go.WideShapes Go.ChangeAt Go.ChangeMaps Go.RowKit Go.Shelf
set_option linter.unusedSimpArgs false
set_option linter.unusedVariables false
set_option maxRecDepth 2000
set_option maxHeartbeats 1000000 in
theorem rNum_w (v : Value) (Z : Int) (K : Nat) (w : World) (hK : K ≤ 1000000) (h : IsN v Z K w) :
    Calls Tryd.prog 29 #[v] w fun e w' => ∃ v', e = .returned v' ∧ TV (Zw w.heap.size w') w' (intT Z) v' ∧ (glim 4294967296 Z.natAbs).length ≤ K ∧ Below w.heap.size w w' := by
  have hN : ∀ w', Below w.heap.size w w' → IsN v Z K w' := fun w' hb => h.below hb
  obtain ⟨neg, o, l, c, rfl, hL, hc, hm, hs, hk⟩ := h
  clear hL hc hm hs hk
  obtain ⟨kA, kB, hB0, hz0⟩ := bx27 w (.bool neg) (.slice o l.length c) (.int .i64 0) (.bool false) nilS (.string noS) (.int .i64 0) nilS nilS 50 31
  go_enter Tryd.func29, Tryd.ntmps29
  go_wp2_with fail
  generalize ((w.alloc (.cells #[.bool neg, .slice o l.length c] 50)).alloc (.cells #[.int .i64 0, .bool false, .slice none 0 0, .string { data := #[] }, .int .i64 0, .slice none 0 0, .slice none 0 0] 31)) = W0 at *
  refine (rnorm_w _ Z K _ hK (hN _ hB0)).mono ?_
  rintro e w1 ⟨sl, rfl, hF, hKK, b1⟩
  obtain ⟨o1, c1, rfl, _, _, _⟩ := hF.parts
  have hF' : w1.ownsRow (w.heap.size + 2) 42 1 (.slice o1 (glim 4294967296 Z.natAbs).length c1) (glim 4294967296 Z.natAbs).length (lim (glim 4294967296 Z.natAbs)) := own_mono (show w1.ownsRow W0.heap.size 42 1 _ _ _ from hF) (by omega)
  clear hF
  have hHF := hid hF'
  clear hF'
  have hB1 := below_and hB0 (by omega) b1
  have kA1 := kA.below b1 (by omega)
  have kB1 := kB.below b1
  have hz1 := b1.size
  clear hB0 kA kB b1 hN
  obtain ⟨f1, f2, f3, f4⟩ := id kA1
  have kA2 : Box w.heap.size (.bool (decide (Z < 0))) (.slice o1 (glim 4294967296 Z.natAbs).length c1) ((w1.setCell ⟨w.heap.size, 0, none⟩ (.bool (decide (Z < 0)))).setCell ⟨w.heap.size, 1, none⟩ (.slice o1 (glim 4294967296 Z.natAbs).length c1)) := kA1.put
  have ho2 : Only w.heap.size w1 ((w1.setCell ⟨w.heap.size, 0, none⟩ (.bool (decide (Z < 0)))).setCell ⟨w.heap.size, 1, none⟩ (.slice o1 (glim 4294967296 Z.natAbs).length c1)) := (only_set w1 w.heap.size 0 _).setCell 1 _
  have kB2 := kB1.only ho2 (by omega)
  have hB2 := hB1.trans (ho2.below (B := w.heap.size) (Nat.le_refl _))
  have hz2 := ho2.2.1
  go_upto_region 2 with fail
  clear f1 f2 f3 f4 kA1 kB1
  generalize hW2 : (w1.setCell ⟨w.heap.size, 0, none⟩ (.bool (decide (Z < 0)))).setCell ⟨w.heap.size, 1, none⟩ (.slice o1 (glim 4294967296 Z.natAbs).length c1) = w2 at *
  clear hW2
  obtain ⟨f1, f2, f3, f4⟩ := id kA2
  have hf := kB2.fr
  obtain ⟨g0, g1, g2, g3, g4, g5, g6⟩ := kB2.res
  obtain ⟨zb, hzb⟩ : ∃ zb, decide (Z < 0) = zb := ⟨_, rfl⟩
  have hHz := hid hzb
  rw [hzb] at f1 ⊢
  clear hzb
  have hput := kB2.put (b0 := .int .i64 0) (b1 := .bool zb) (b2 := .slice o1 (glim 4294967296 Z.natAbs).length c1) (b3 := .string noS) (b4 := .int .i64 0) (b5 := nilS) (b6 := nilS)
  have hon := only_put w2 (w.heap.size + 1) (.int .i64 0) (.bool zb) (.slice o1 (glim 4294967296 Z.natAbs).length c1) (.string noS) (.int .i64 0) nilS nilS
  obtain ⟨r0, r1, r2, r3, r4, r5, r6⟩ := hput.res
  have hfin : TV (Zw w.heap.size (((((((w2.setCell ⟨w.heap.size + 1, 0, none⟩ (.int .i64 0)).setCell ⟨w.heap.size + 1, 1, none⟩ (.bool zb)).setCell ⟨w.heap.size + 1, 2, none⟩ (.slice o1 (glim 4294967296 Z.natAbs).length c1)).setCell ⟨w.heap.size + 1, 3, none⟩ (.string noS)).setCell ⟨w.heap.size + 1, 4, none⟩ (.int .i64 0)).setCell ⟨w.heap.size + 1, 5, none⟩ nilS).setCell ⟨w.heap.size + 1, 6, none⟩ nilS)) (((((((w2.setCell ⟨w.heap.size + 1, 0, none⟩ (.int .i64 0)).setCell ⟨w.heap.size + 1, 1, none⟩ (.bool zb)).setCell ⟨w.heap.size + 1, 2, none⟩ (.slice o1 (glim 4294967296 Z.natAbs).length c1)).setCell ⟨w.heap.size + 1, 3, none⟩ (.string noS)).setCell ⟨w.heap.size + 1, 4, none⟩ (.int .i64 0)).setCell ⟨w.heap.size + 1, 5, none⟩ nilS).setCell ⟨w.heap.size + 1, 6, none⟩ nilS) (intT Z) (tmV 0 zb (.slice o1 (glim 4294967296 Z.natAbs).length c1) noS 0 nilS nilS) := by
    have := tv_int (S := w.heap.size) (w' := (((((((w2.setCell ⟨w.heap.size + 1, 0, none⟩ (.int .i64 0)).setCell ⟨w.heap.size + 1, 1, none⟩ (.bool zb)).setCell ⟨w.heap.size + 1, 2, none⟩ (.slice o1 (glim 4294967296 Z.natAbs).length c1)).setCell ⟨w.heap.size + 1, 3, none⟩ (.string noS)).setCell ⟨w.heap.size + 1, 4, none⟩ (.int .i64 0)).setCell ⟨w.heap.size + 1, 5, none⟩ nilS).setCell ⟨w.heap.size + 1, 6, none⟩ nilS)) hHF.out (by omega) (fun g hg hg2 => (hon.2.2 g (by omega)).trans (ho2.2.2 g (by omega)))
    rw [hHz.out] at this
    exact this
  have hBf := hB2.trans (hon.below (B := w.heap.size) (by omega))
  have hHf := hid hfin
  have hHk := hid hKK
  clear hfin hHF hon ho2 hB2 hB1 hKK
  go_wp2
  exact bodyPost_ret (v := tmV 0 zb (.slice o1 (glim 4294967296 Z.natAbs).length c1) noS 0 nilS nilS) (by simp [results, Tryd.results29, go_sem, r0, r1, r2, r3, r4, r5, r6]) rfl ⟨_, rfl, hHf.out, hHk.out, hBf⟩
set_option maxHeartbeats 1000000 in
theorem rInt_w (n : Int) (w : World) (h0 : -9223372036854775808 ≤ n) (h1 : n < 9223372036854775808) :
    Calls Tryd.prog 16 #[.int .i64 n] w fun e w' => ∃ v', e = .returned v' ∧ TV (Zw w.heap.size w') w' (intT n) v' ∧ (glim 4294967296 n.natAbs).length ≤ 2 ∧ Below w.heap.size w w' := by
  obtain ⟨kX, hBX, hz0⟩ := bx1 w (.int .i64 0) (.bool false) nilS (.string noS) (.int .i64 0) nilS nilS 31
  go_enter Tryd.func16, Tryd.ntmps16
  go_wp2_with fail
  generalize (w.alloc (.cells #[.int .i64 0, .bool false, .slice none 0 0, .string { data := #[] }, .int .i64 0, .slice none 0 0, .slice none 0 0] 31)) = W0 at *
  refine (ofInt_w n _ h0 h1).mono ?_
  rintro e w1 ⟨v1, rfl, hC, b1⟩
  have hN := hC.isN
  obtain ⟨o1, c1, rfl, _⟩ := hC
  go_wp2_with fail
  refine (rNum_w _ n 2 _ (by omega) hN).mono ?_
  rintro e w2 ⟨v2, rfl, hV, hg2, b2⟩
  have Hg2 := hid hg2
  clear hg2
  have hBX := below_and (below_and hBX (by omega) b1) (by omega) b2
  have kX := (kX.below b1).below b2
  have hz1 := b1.size
  clear b1 b2 hN
  obtain ⟨k9, neg9, od9, ld9, cd9, nm9, n9, ol9, ll9, cl9, ob9, lb9, cb9, rfl⟩ := hV.form
  have hf9 := kX.fr
  obtain ⟨x0, x1, x2, x3, x4, x5, x6⟩ := kX.res
  have hput := kX.put (b0 := .int .i64 k9) (b1 := .bool neg9) (b2 := .slice od9 ld9 cd9) (b3 := .string nm9) (b4 := .int .i64 n9) (b5 := .slice ol9 ll9 cl9) (b6 := .slice ob9 lb9 cb9)
  have hon := only_put w2 w.heap.size (.int .i64 k9) (.bool neg9) (.slice od9 ld9 cd9) (.string nm9) (.int .i64 n9) (.slice ol9 ll9 cl9) (.slice ob9 lb9 cb9)
  obtain ⟨r0, r1, r2, r3, r4, r5, r6⟩ := hput.res
  have hfin := hid (zw_move (S' := w.heap.size) hV (fun k hk _ => hon.2.2 k (by omega)) (by omega))
  have hBf := hBX.trans (hon.below (B := w.heap.size) (by omega))
  clear hV hon kX hput hBX
  go_wp2
  exact bodyPost_ret (v := tmV k9 neg9 (.slice od9 ld9 cd9) nm9 n9 (.slice ol9 ll9 cl9) (.slice ob9 lb9 cb9)) (by simp [results, Tryd.results16, go_sem, r0, r1, r2, r3, r4, r5, r6]) rfl ⟨_, rfl, hfin.out, Hg2.out, hBf⟩
set_option maxHeartbeats 1000000 in
theorem rAtom_w (nm : ByteArray) (w : World) : Calls Tryd.prog 23 #[.string nm] w fun e w' => e = .returned (tmV 1 false nilS nm 0 nilS nilS) ∧ Below w.heap.size w w' := by
  go_enter Tryd.func23, Tryd.ntmps23
  go_wp2
  exact bodyPost_ret (v := tmV 1 false nilS nm 0 nilS nilS) (by simp [results, Tryd.results23, go_sem]) rfl ⟨rfl, (Below.refl _ w).alloc (Nat.le_refl _) _⟩
set_option maxHeartbeats 1000000 in
theorem rNil_w (w : World) : Calls Tryd.prog 24 #[] w fun e w' => e = .returned (tmV 5 false nilS noS 0 nilS nilS) ∧ Below w.heap.size w w' := by
  go_enter Tryd.func24, Tryd.ntmps24
  go_wp2
  exact bodyPost_ret (v := tmV 5 false nilS noS 0 nilS nilS) (by simp [results, Tryd.results24, go_sem]) rfl ⟨rfl, (Below.refl _ w).alloc (Nat.le_refl _) _⟩
set_option maxHeartbeats 1000000 in
theorem rTuple0_w (w : World) : Calls Tryd.prog 15 #[.slice none 0 0] w fun e w' => e = .returned (tmV 4 false nilS noS 0 nilS nilS) ∧ Below w.heap.size w w' := by
  go_enter Tryd.func15, Tryd.ntmps15
  go_wp2_with fail
  go_loopg [4] 0 (fun t v4 wr => t = 0 ∧ v4 = .int .i64 0 ∧ wr = (w.alloc (.cells #[.int .i64 0, .bool false, .slice none 0 0, .string { data := #[] }, .int .i64 0, .slice none 0 0, .slice none 0 0] 31)).alloc (.cells #[.int .i64 4, .bool false, .slice none 0 0, .string { data := #[] }, .int .i64 0, .slice none 0 0, .slice none 0 0] 31))
  case atStart => exact ⟨rfl, rfl, rfl⟩
  case round =>
    obtain ⟨rfl, rfl, rfl⟩ := hrel
    go_wp2
    exact bodyPost_ret (v := tmV 4 false nilS noS 0 nilS nilS) (by simp [results, Tryd.results15, go_sem]) rfl ⟨rfl, ((Below.refl _ w).alloc (Nat.le_refl _) _).alloc (by simp) _⟩
theorem wf_flat (k : Int) (nm : ByteArray) (n : Int) (h0 : 0 ≤ k) (h7 : k ≤ 7) (h6 : k ≠ 6) (h1 : k = 1 → Lib.validD nm.data.toList = true) (hs : nm.size ≤ 1000000) : wfT (.mk k false [] nm n [] []) := by
  intro t ht
  rw [parts_eq] at ht
  have hk : (Tm.mk k false [] nm n [] []).kids = [] := by simp [Tm.kids]
  rw [hk] at ht
  simp only [partsL, List.mem_cons, List.not_mem_nil, or_false] at ht
  subst ht
  exact ⟨h0, h7, fun h => absurd h h6, h1, ok_flat k n hs⟩
theorem dep_flat (k : Int) (nm : ByteArray) (n : Int) : dep (.mk k false [] nm n [] []) ≤ 1 := by
  unfold dep
  split <;> simp [depL]
theorem wf_int (Z : Int) (h : (glim 4294967296 Z.natAbs).length ≤ 1000000) : wfT (intT Z) := by
  intro t ht
  rw [parts_eq] at ht
  have hk : (intT Z).kids = [] := by simp [intT, Tm.kids]
  rw [hk] at ht
  simp only [partsL, List.mem_cons, List.not_mem_nil, or_false] at ht
  subst ht
  exact ⟨by omega, by omega, fun h => by omega, fun h => by omega, h, by simp [ByteArray.size], by simp, by simp, lm_glim (by omega) _⟩
set_option maxHeartbeats 2000000 in
theorem awake6_w (w : World) (hT : Tabs w) : Calls Tryd.prog 7 #[] w fun e w' => e = .returned (.bool true) ∧ Below w.heap.size w w' := by
  have hva : Lib.validD (({ data := #[97] } : ByteArray).data.toList) = true := by kernel_rfl
  go_enter Tryd.func7, Tryd.ntmps7
  go_wp2_with fail
  refine (rInt_w 5 _ (by omega) (by omega)).mono ?_
  rintro e w1 ⟨v1, rfl, hV1, hg5, b1⟩
  have Hw := hid (wf_int 5 (Nat.le_trans hg5 (by decide)))
  clear hg5
  obtain ⟨k9, neg9, od9, ld9, cd9, nm9, n9, ol9, ll9, cl9, ob9, lb9, cb9, rfl⟩ := hV1.form
  go_wp2_with fail
  refine (rAtom_w _ _).mono ?_
  rintro e w2 ⟨rfl, b2⟩
  have B2 := below_and b1 (Nat.le_refl _) b2
  have i1 := tv_below (tv_low hV1) b2
  have c1 : cT (intT 5) (.mk 1 false [] { data := #[97] } 0 [] []) = -1 := by unfold intT; rw [cT_kind (by decide)]; decide
  have hd5 : dep (intT 5) ≤ 1000000 := by simp [intT, dep]
  have Hd := hid hd5
  have HC := hid c1
  clear hV1 b1 b2 hd5 c1
  go_wp2_with fail
  refine (Compare_o (intT 5) (.mk 1 false [] { data := #[97] } 0 [] []) _ _ _ i1 (tv_flat 1 _ 0) Hw.out (wf_flat 1 _ 0 (by decide) (by decide) (by decide) (fun _ => hva) (by decide)) Hd.out (hT.below B2)).mono ?_
  rw [HC.out]
  rintro e w3 ⟨rfl, b3⟩
  have B3 := below_and B2 (Nat.le_refl _) b3
  clear i1 B2 b3
  go_wp2_with fail
  refine (rNil_w _).mono ?_
  rintro e w4 ⟨rfl, b4⟩
  have B4 := below_and B3 (Nat.le_refl _) b4
  go_wp2_with fail
  refine (rTuple0_w _).mono ?_
  rintro e w5 ⟨rfl, b5⟩
  have B5 := below_and B4 (Nat.le_refl _) b5
  have c2 : cT (.mk 5 false [] noS 0 [] []) (.mk 4 false [] noS 0 [] []) = 1 := by rw [cT_kind (by decide)]; decide
  have HC2 := hid c2
  clear B3 b4 B4 b5 c2
  go_wp2_with fail
  refine (Compare_o (.mk 5 false [] noS 0 [] []) (.mk 4 false [] noS 0 [] []) _ _ _ (tv_flat 5 _ 0) (tv_flat 4 _ 0) (wf_flat 5 _ 0 (by decide) (by decide) (by decide) (fun h => by omega) (by decide)) (wf_flat 4 _ 0 (by decide) (by decide) (by decide) (fun h => by omega) (by decide)) (Nat.le_trans (dep_flat 5 noS 0) (by decide)) (hT.below B5)).mono ?_
  rw [HC2.out]
  rintro e w6 ⟨rfl, b6⟩
  have B6 := below_and B5 (Nat.le_refl _) b6
  go_wp2
  go_ret
  exact ⟨rfl, B6⟩
end Go.Proofs.YtpdoepjnkgffpaaDoor
