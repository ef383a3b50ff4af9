/- TermKnown, walked. -/
import Derived.Test.YtddbndachoofoaaDoorTermLaid
import Derived.Test.YtddbndachoofoaaDoorTermItems
import Derived.Test.YtddbndachoofoaaDoorTermMakers
import Derived.Test.YtddbndachoofoaaDoorTermSameF
import Derived.Test.YtddbndachoofoaaDoorTermOf
import Derived.Test.YtddbndachoofoaaDoorTermRoomL
namespace Go.Proofs.YtddbndachoofoaaDoor.termKnown
open Go.ChangeShapes Go.WideShapes Go.ChangeAt Go.ChangeMaps Go.RowKit Go.Shelf
set_option linter.unusedSimpArgs false
set_option linter.unusedVariables false
theorem kn_parts : partsL [intT 1, nilT] = [intT 1, nilT] := by simp only [partsL, parts_int, parts_nil, List.cons_append, List.nil_append]
theorem kn_ok : ∀ p ∈ partsL [intT 1, nilT], p.ok1 := by
  rw [kn_parts]
  intro p hp
  simp only [List.mem_cons, List.not_mem_nil, or_false] at hp
  rcases hp with rfl | rfl
  · exact ok_int (by rw [show (1 : Int).natAbs = 1 from rfl, glim_one]; simp)
  · exact ok_flat 5 0 (by decide)
theorem kn_cp : cpL [intT 1, nilT] = [intT 1, nilT] := by simp [cpL, cpT_int, nilT, cpT, prT]
theorem itP_true {S : Nat} {its : List Tm} {e : Ending} {w' : World} (h : ItP S its true e w') : ∃ o c, e = .returned (.tuple #[.slice o its.length c, .bool true]) ∧ TR (Zw S w') w' (cpL its) o := by
  rcases h with ⟨_, h⟩ | ⟨h, _⟩
  · exact h
  · exact absurd h (by simp)
theorem itP_false {S : Nat} {its : List Tm} {e : Ending} {w' : World} (h : ItP S its false e w') : e = .returned (.tuple #[.slice none 0 0, .bool false]) := by
  rcases h with ⟨h, _⟩ | ⟨_, h⟩
  · exact absurd h (by simp)
  · exact h
theorem ch_no : Ch (consT (intT 1) (intT 2)) [intT 1] false := Ch.step false [] noS 0 (intT 1) (intT 2) [] [] false (Ch.stop 0 _ _ _ _ _ _ (by simp) false (by simp))
theorem glim_small {n : Nat} (h0 : 0 < n) (h1 : n < 4294967296) : glim 4294967296 n = [n] := by
  rw [glim_pos (by omega) h0, Nat.mod_eq_of_lt h1, Nat.div_eq_of_lt h1, glim_zero]
theorem ok_i {Z : Int} (h0 : 0 < Z.natAbs) (h1 : Z.natAbs < 4294967296) : ∀ p ∈ parts (intT Z), p.ok1 := by
  rw [parts_int]
  intro p hp
  simp only [List.mem_cons, List.not_mem_nil, or_false] at hp
  subst hp
  exact ok_int (by rw [glim_small h0 h1]; simp)
theorem tv_neg {Z : Nat → Prop} {w : World} (k : Int) (nm : ByteArray) (n : Int) : TV Z w (.mk k true [] nm n [] []) (tmV k true nilS nm n nilS nilS) := by
  unfold TV
  exact ⟨none, 0, none, 0, none, 0, rfl, Ls.nil _ _ _, by simp, Lm.nil _, LsB.nil _ _ _, by simp, by simp, by unfold TR; trivial⟩
theorem tr_nil (Z : Nat → Prop) (w : World) (o : Option Addr) : TR Z w [] o := by unfold TR; trivial
theorem parts_leaf (k : Int) (neg : Bool) (d : List Nat) (nm : ByteArray) (n : Int) (b : List Nat) : parts (.mk k neg d nm n [] b) = [.mk k neg d nm n [] b] := by
  simp [parts, partsL]
theorem ok_leaf {k : Int} {neg : Bool} {n : Int} : ∀ p ∈ parts (.mk k neg [] noS n [] []), p.ok1 := by
  rw [parts_leaf]
  intro p hp
  simp only [List.mem_cons, List.not_mem_nil, or_false] at hp
  subst hp
  exact ⟨by simp, by decide, by simp, by simp, Lm.nil _⟩
theorem dep_leaf {k : Int} {neg : Bool} {d : List Nat} {nm : ByteArray} {n : Int} {b : List Nat} : dep (.mk k neg d nm n [] b) ≤ 1000000 := by
  simp only [dep, depL]
  split <;> omega
theorem may_8 : mayB (.mk 8 false [] noS 0 [] []) = false := by
  unfold mayB treeN
  rw [parts_leaf]
  simp [fairB, withinB, leanB, prT, eqF]
theorem may_N : mayB (.mk 0 true [] noS 0 [] []) = false := by
  unfold mayB treeN
  rw [parts_leaf]
  simp [fairB, withinB, leanB, prT, normB, sv, gval]
theorem may_P : mayB (.mk 3 false [] noS (-1) [] []) = false := by
  unfold mayB treeN
  rw [parts_leaf]
  simp [fairB, withinB, leanB, prT]
theorem words_B : ((wordsN (binT []) : Nat) : Int) = 4 := by
  unfold wordsN binT
  rw [parts_leaf]
  simp [roomN]
theorem same_T : alikeB (prT (.mk 4 false [] noS 0 [] [])) (prT (.mk 4 false [] noS 0 [] [])) = true := by simp [prT, alikeB]
theorem same_PR : alikeB (prT (.mk 3 false [] noS 1 [] [])) (prT (.mk 2 false [] noS 1 [] [])) = false := by simp [prT, alikeB]
set_option maxHeartbeats 4000000 in
set_option maxRecDepth 20000 in
theorem walk {H : Type} (enc : TypeId × Value → H) (base : Nat) (w : World)
    (hT : Tabs w) :
    Calls Tryd.prog 3 #[] w fun e w' => e = .returned (.bool true) ∧ Below w.heap.size w w' := by
  go_enter Tryd.func3, Tryd.ntmps3
  try simp only [List.append_eq, List.cons_append, List.nil_append]
  go_wp2_with fail
  refine (awake_w _ hT).mono ?_
  rintro e w1 ⟨rfl, b1⟩
  go_wp2_with fail
  refine (Int_w 1 _ (by omega) (by omega)).mono ?_
  rintro e w2 ⟨v2, rfl, hV2, b2⟩
  have hB2 := below_and b1 (Nat.le_refl _) b2
  go_wp2_with fail
  refine (Nil_w _).mono ?_
  rintro e w3 ⟨rfl, b3⟩
  have hB3 := below_and hB2 (Nat.le_refl _) b3
  have hV3 := tv_below (tv_low hV2) b3
  have hN3 : TV (Low w3) w3 nilT (tmV 5 false nilS noS 0 nilS nilS) := tv_flat 5 noS 0
  obtain ⟨k, neg, od, ld, cd, nm, n, ol, ll, cl, ob, lb, cb, rfl⟩ := hV3.form
  clear hV2 hB2 b1 b2 b3
  have hbb := (Below.refl _ w3).alloc (Nat.le_refl _) (.cells #[.int .i64 k, .bool neg, .slice od ld cd, .string nm, .int .i64 n, .slice ol ll cl, .slice ob lb cb, .int .i64 5, .bool false, nilS, .string noS, .int .i64 0, nilS, nilS] 29)
  have hR4 := tr_two (tv_below hV3 hbb) (tv_below hN3 hbb) (heap_alloc_new w3 _) (show w3.heap.size < _ by simp)
  have hB4 := below_and hB3 (Nat.le_refl _) hbb
  unfold tmV
  go_wp2_with fail
  generalize (w3.alloc (.cells #[.int .i64 k, .bool neg, .slice od ld cd, .string nm, .int .i64 n, .slice ol ll cl, .slice ob lb cb, .int .i64 5, .bool false, nilS, .string noS, .int .i64 0, nilS, nilS] 29)) = W4 at *
  clear hV3 hN3 hbb hB3
  refine (List_w [intT 1, nilT] _ _ _ (by simp) (by rw [kn_parts]; simp) (by simp) kn_ok hR4).mono ?_
  rintro e w5 ⟨v5, rfl, hV5, b5⟩
  rw [kn_cp] at hV5
  have hB5 := below_and hB4 (Nat.le_refl _) b5
  clear hR4 hB4 b5
  go_wp2_with fail
  refine (Items_w _ _ _ _ _ (ch_list [intT 1, nilT]) (by rw [kn_parts]; simp) (by simp) kn_ok (tv_low hV5)).mono ?_
  rintro e w6 ⟨hI, b6⟩
  obtain ⟨o6, c6, rfl, hR6⟩ := itP_true hI
  rw [kn_cp] at hR6
  have hR6 := tr_low hR6
  have hB6 := below_and hB5 (Nat.le_refl _) b6
  clear hV5 b6 hB5 hI
  go_upto_region 4 with fail
  go_wp2_with fail
  refine (Int_w 1 _ (by omega) (by omega)).mono ?_
  rintro e w7 ⟨v7, rfl, hV7, b7⟩
  have hR7 := tr_below hR6 b7
  have hB7 := below_and hB6 (Nat.le_refl _) b7
  clear b7 hR6 hB6
  go_wp2_with fail
  refine (Int_w 2 _ (by omega) (by omega)).mono ?_
  rintro e w8 ⟨v8, rfl, hV8, b8⟩
  have hR8 := tr_below hR7 b8
  have hV7' := tv_below (tv_low hV7) b8
  have hB8 := below_and hB7 (Nat.le_refl _) b8
  clear b8 hR7 hB7 hV7
  go_wp2_with fail
  refine (Cons_w (intT 1) (intT 2) _ _ _ (by rw [parts_int, parts_int]; simp) (ok_i (by decide) (by decide)) (ok_i (by decide) (by decide)) hV7' (tv_low hV8)).mono ?_
  rintro e w9 ⟨v9, rfl, hV9, b9⟩
  rw [cpT_int, cpT_int] at hV9
  have hR9 := tr_below hR8 b9
  have hB9 := below_and hB8 (Nat.le_refl _) b9
  clear b9 hR8 hB8 hV7' hV8
  go_wp2_with fail
  refine (Items_w _ _ _ _ _ ch_no (by simp only [partsL, parts_int]; simp) (by simp) (by simpa [partsL] using ok_i (by decide) (by decide)) (tv_low hV9)).mono ?_
  rintro e w10 ⟨hI, b10⟩
  obtain rfl := itP_false hI
  have hR10 := tr_below hR9 b10
  have hB10 := below_and hB9 (Nat.le_refl _) b10
  clear b10 hR9 hB9 hV9 hI
  go_upto_region 5 with fail
  go_wp2_with fail
  refine (Int_w (-5) _ (by omega) (by omega)).mono ?_
  rintro e w11 ⟨v11, rfl, hV11, b11⟩
  have hR11 := tr_below hR10 b11
  have hB11 := below_and hB10 (Nat.le_refl _) b11
  clear b11 hR10 hB10
  obtain ⟨z, m, od', cd', ol', cl', ob', cb', rfl, hNx⟩ := tv_intN (K := 1) (tv_low hV11) (by rw [show (-5 : Int).natAbs = 5 from rfl, glim_small (by omega) (by omega)]; simp)
  clear hV11
  go_wp2_with fail
  refine (Of_w (-5) 1 z m od' cd' ol' ob' 0 cl' 0 cb' noS 0 _ (by omega) hNx).mono ?_
  rintro e w12 ⟨b5, o5, n5, c5, rfl, hC5, br5⟩
  have hR12 := tr_below hR11 br5
  have hB12 := below_and hB11 (Nat.le_refl _) br5
  clear hR11 hB11 br5 hNx
  obtain ⟨q1, q2⟩ := hC5.parts
  have e1 : b5 = true := q1.trans (by decide)
  have e2 : n5 = 1 := q2.trans (by rw [show (-5 : Int).natAbs = 5 from rfl, glim_small (by omega) (by omega)]; rfl)
  clear q1 q2
  subst e1 e2
  clear hC5
  have kx := Box.new w12 (.bool true) (.slice o5 1 c5) 35
  have hb6 : Below w12.heap.size w12 (w12.alloc (.cells #[.bool true, .slice o5 1 c5] 35)) := (Below.refl _ w12).alloc (Nat.le_refl _) _
  go_upto_region 6 with fail
  generalize (w12.alloc (.cells #[.bool true, .slice o5 1 c5] 35)) = W at *
  have hB := below_and hB12 (Nat.le_refl _) hb6
  have hRW := tr_below hR12 hb6
  obtain ⟨a, k2, neg2, od2, ld2, cd2, nm2, n2, ol2, ll2, cl2, ob2, lb2, cb2, rfl, hTv2, y0, _⟩ := hRW.get (i := 1) (t := nilT) rfl (Below.refl _ W)
  have hk5 : k2 = 5 := by
    unfold nilT TV at hTv2
    obtain ⟨_, _, _, _, _, _, e, _⟩ := hTv2
    simp [tmV] at e
    exact e.1
  subst hk5
  have hla : (a.add (1 * 7)).block < W.heap.size := World.block_lt_of_cell? _ _ y0
  have hlx : w12.heap.size < W.heap.size := World.block_lt_of_cell? _ _ kx.1
  have hTb := hid (fun w' (hb : Below W.heap.size W w') => hT.below (below_and hB (Nat.le_refl _) hb))
  have hd8 := hid (dep_leaf (k := 8) (neg := false) (d := []) (nm := noS) (n := 0) (b := []))
  have hdN := hid (dep_leaf (k := 0) (neg := true) (d := []) (nm := noS) (n := 0) (b := []))
  have hdP := hid (dep_leaf (k := 3) (neg := false) (d := []) (nm := noS) (n := -1) (b := []))
  have hdB : Hid (dep (binT []) ≤ 1000000) := hid dep_leaf
  have hk8 := hid (ok_leaf (k := 8) (neg := false) (n := 0))
  have hkN := hid (ok_leaf (k := 0) (neg := true) (n := 0))
  have hkP := hid (ok_leaf (k := 3) (neg := false) (n := -1))
  have hkB : Hid (∀ p ∈ parts (binT []), p.ok1) := hid ok_leaf
  have hnB : Hid ((parts (binT [])).length ≤ 1000000) := hid (by unfold binT; rw [parts_leaf]; simp)
  have hk0 : Hid (∀ p ∈ partsL [], p.ok1) := hid (by simp [partsL])
  have hle : Hid (0 ≤ 0) := hid (Nat.le_refl _)
  have hle6 : Hid (0 ≤ 1000000) := hid (Nat.zero_le _)
  have hl5 : Hid ((partsL []).length ≤ 499999) := hid (by simp [partsL])
  have hm8 := hid may_8
  have hmN := hid may_N
  have hmP := hid may_P
  have hwB := hid words_B
  have hs1 := hid same_T
  have hs2 := hid same_PR
  have hk4 : Hid ((Tm.mk 4 false [] noS 0 [] []).ok1) := hid (ok_flat 4 0 (by decide))
  have hk3 : Hid ((Tm.mk 3 false [] noS 1 [] []).ok1) := hid (ok_flat 3 1 (by decide))
  have hk2 : Hid ((Tm.mk 2 false [] noS 1 [] []).ok1) := hid (ok_flat 2 1 (by decide))
  have hkid4 : Hid ((Tm.mk 4 false [] noS 0 [] []).kids = []) := hid (by simp [Tm.kids])
  have hkid3 : Hid ((Tm.mk 3 false [] noS 1 [] []).kids = []) := hid (by simp [Tm.kids])
  have hDr : Below W.heap.size W W := Below.refl _ W
  have hfin := hid hB
  obtain ⟨x1, x2, _, _⟩ := id kx
  have y7 : W.cell? ⟨a.block, a.off + 7, none⟩ = some (.int .i64 5) := y0
  clear kx hTv2 hRW hR12 hB hB12 hb6 hlx hla hT
  go_wp2_with fail
  refine (May_w (.mk 8 false [] noS 0 [] []) _ _ hd8.out hk8.out (tv_flat 8 noS 0) (hTb.out _ hDr)).mono ?_
  rintro e wa ⟨rfl, bra⟩
  rw [hm8.out]
  have c1 : Below W.heap.size W wa := below_and hDr (Nat.le_refl _) bra
  clear x1 x2 y0 y7
  go_wp2_with fail
  refine (May_w (.mk 0 true [] noS 0 [] []) _ _ hdN.out hkN.out (tv_neg 0 noS 0) (hTb.out _ c1)).mono ?_
  rintro e wb ⟨rfl, brb⟩
  rw [hmN.out]
  have c2 : Below W.heap.size W wb := below_and c1 (Nat.le_refl _) brb
  go_wp2_with fail
  refine (Pid_w (-1) _).mono ?_
  rintro e wc ⟨rfl, brc⟩
  have c3 : Below W.heap.size W wc := below_and c2 (Nat.le_refl _) brc
  go_wp2_with fail
  refine (May_w (.mk 3 false [] noS (-1) [] []) _ _ hdP.out hkP.out (tv_flat 3 noS (-1)) (hTb.out _ c3)).mono ?_
  rintro e wd ⟨rfl, brd⟩
  rw [hmP.out]
  have c4 : Below W.heap.size W wd := below_and c3 (Nat.le_refl _) brd
  go_wp2_with fail
  refine (Bin_w [] none 0 _ hle.out hle6.out (LsB.nil _ _ _)).mono ?_
  rintro e we ⟨vB, rfl, hVB, bre⟩
  have hVB' := tv_low hVB
  have c5 : Below W.heap.size W we := below_and c4 (Nat.le_refl _) bre
  go_wp2_with fail
  refine (Words_w (binT []) _ _ hdB.out hkB.out hnB.out hVB').mono ?_
  rintro e wf ⟨rfl, brf⟩
  rw [hwB.out]
  have c6 : Below W.heap.size W wf := below_and c5 (Nat.le_refl _) brf
  go_wp2_with fail
  refine (Tuple_w [] none 0 _ hle.out hl5.out hle6.out hk0.out (tr_nil _ _ _)).mono ?_
  rintro e wg ⟨vT, rfl, hVT, brg⟩
  have hVT' := tv_low hVT
  have c7 : Below W.heap.size W wg := below_and c6 (Nat.le_refl _) brg
  go_wp2_with fail
  refine (Tuple_w [] none 0 _ hle.out hl5.out hle6.out hk0.out (tr_nil _ _ _)).mono ?_
  rintro e wh ⟨vU, rfl, hVU, brh⟩
  have hVU' := tv_low hVU
  have hVT2 := tv_below hVT' brh
  have c8 : Below W.heap.size W wh := below_and c7 (Nat.le_refl _) brh
  go_wp2_with fail
  refine (Same_flat 4 false [] noS 0 [] [] 4 false [] noS 0 [] [] _ _ _ hkid4.out hk4.out hk4.out hVT2 hVU').mono ?_
  rintro e wi ⟨rfl, bri⟩
  rw [hs1.out]
  have c9 : Below W.heap.size W wi := below_and c8 (Nat.le_refl _) bri
  go_wp2_with fail
  refine (Pid_w 1 _).mono ?_
  rintro e wj ⟨rfl, brj⟩
  have c10 : Below W.heap.size W wj := below_and c9 (Nat.le_refl _) brj
  go_wp2_with fail
  refine (Ref_w 1 _).mono ?_
  rintro e wk ⟨rfl, brk⟩
  have c11 : Below W.heap.size W wk := below_and c10 (Nat.le_refl _) brk
  go_wp2_with fail
  refine (Same_flat 3 false [] noS 1 [] [] 2 false [] noS 1 [] [] _ _ _ hkid3.out hk3.out hk2.out (tv_flat 3 noS 1) (tv_flat 2 noS 1)).mono ?_
  rintro e wl ⟨rfl, brl⟩
  rw [hs2.out]
  have c12 : Below W.heap.size W wl := below_and c11 (Nat.le_refl _) brl
  go_wp2_with fail
  go_ret
  exact ⟨rfl, below_and hfin.out (Nat.le_refl _) c12⟩
end Go.Proofs.YtddbndachoofoaaDoor.termKnown
