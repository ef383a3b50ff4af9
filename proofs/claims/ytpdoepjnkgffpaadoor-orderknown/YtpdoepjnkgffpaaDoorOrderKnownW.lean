/- OrderKnown, walked. -/
import Derived.Test.YtpdoepjnkgffpaaDoorSortB
import Derived.Test.YtpdoepjnkgffpaaDoorOrdFacts
import Derived.Test.YtpdoepjnkgffpaaDoorCpyAll
namespace Go.Proofs.YtpdoepjnkgffpaaDoor.orderKnown
open Go.ChangeShapes Go.WideShapes Go.ChangeAt Go.ChangeMaps Go.RowKit Go.Shelf
set_option linter.unusedSimpArgs false
set_option linter.unusedVariables false
set_option maxRecDepth 2000
abbrev tA : Tm := tupT [intT 9]
abbrev tB : Tm := tupT [intT 1, intT 1]
theorem fi (Z : Int) (h : (glim 4294967296 Z.natAbs).length ≤ 64) : (intT Z).ok1 ∧ fairB (intT Z) = true := ⟨ok_int (by omega), by rw [fairB_int]; exact decide_eq_true h⟩
theorem partsI (Z : Int) : parts (intT Z) = [intT Z] := by rw [parts_eq]; simp [intT, Tm.kids, partsL]
theorem ft (l : List Tm) (hl : l.length ≤ 100) (h : ∀ p ∈ partsL l, p.ok1 ∧ fairB p = true) (hf : fairB (tupT l) = true) : ∀ p ∈ parts (tupT l), p.ok1 ∧ fairB p = true := fun p hp => by
  have hk : (tupT l).kids = l := by simp [tupT, Tm.kids]
  rw [parts_eq, hk, List.mem_cons] at hp
  rcases hp with rfl | hp
  · exact ⟨⟨by simp, by simp [ByteArray.size], by show l.length ≤ 1000000; omega, by simp, Lm.nil _⟩, hf⟩
  · exact h p hp
theorem f9 : ∀ p ∈ partsL [intT 9], p.ok1 ∧ fairB p = true := fun p hp => by
  simp only [partsL, partsI, List.append_nil, List.mem_singleton] at hp
  subst hp
  exact fi 9 (by decide +kernel)
theorem f11 : ∀ p ∈ partsL [intT 1, intT 1], p.ok1 ∧ fairB p = true := fun p hp => by
  simp only [partsL, partsI, List.append_nil, List.mem_append, List.mem_singleton, or_self] at hp
  subst hp
  exact fi 1 (by decide +kernel)
theorem fA : ∀ p ∈ parts tA, p.ok1 ∧ fairB p = true := ft _ (by decide) f9 (by decide +kernel)
theorem fB : ∀ p ∈ parts tB, p.ok1 ∧ fairB p = true := ft _ (by decide) f11 (by decide +kernel)
theorem wA : wfT tA := fun p hp => okO_fair p (fA p hp).1 (fA p hp).2
theorem wB : wfT tB := fun p hp => okO_fair p (fB p hp).1 (fB p hp).2
theorem dA : dep tA ≤ 1000000 := by decide +kernel
theorem dB : dep tB ≤ 1000000 := by decide +kernel
theorem lA : (parts tA).length ≤ 500000 := by decide +kernel
theorem lB : (parts tB).length ≤ 500000 := by decide +kernel
theorem cAB : cT tA tB = -1 := by decide +kernel
theorem cBA : cT tB tA = 1 := by decide +kernel
theorem mxBA : mx tB [tA] = tB := by show (if 0 < cT tA tB then tA else tB) = tB; rw [cAB]; rfl
theorem isBA : isort [tB, tA] = [tA, tB] := by
  show (if 0 < cT tB tA then tB :: insR tA [] else tA :: tB :: []).reverse = _
  rw [cBA]; rfl
theorem allBA : ∀ t ∈ [tB, tA], wfT t ∧ dep t ≤ 1000000 ∧ (parts t).length ≤ 500000 ∧ ∀ p ∈ parts t, p.ok1 ∧ fairB p = true := fun t ht => by
  simp only [List.mem_cons, List.not_mem_nil, or_false] at ht
  rcases ht with rfl | rfl
  · exact ⟨wB, dB, lB, fB⟩
  · exact ⟨wA, dA, lA, fA⟩
theorem tup_form {Z : Nat → Prop} {w : World} {l : List Tm} {v : Value} (h : TV Z w (tupT l) v) : ∃ od ol cl ob cd cb, v = tmV 4 false (.slice od 0 cd) noS 0 (.slice ol l.length cl) (.slice ob 0 cb) := by
  unfold tupT TV at h
  obtain ⟨od, cd, ol, cl, ob, cb, rfl, _⟩ := h
  exact ⟨od, ol, cl, ob, cd, cb, rfl⟩
set_option maxHeartbeats 4000000 in
set_option maxRecDepth 8000 in
theorem walk {H : Type} (enc : TypeId × Value → H) (base : Nat) (w : World)
    (hT : Tabs w) :
    Calls Tryd.prog 5 #[] w fun e w' => e = .returned (.bool true) ∧ Below w.heap.size w w' := by
  go_enter Tryd.func5, Tryd.ntmps5
  go_wp2_with fail
  refine (awake6_w _ hT).mono ?_
  rintro e w1 ⟨rfl, B1⟩
  go_wp2_with fail
  refine (rInt_w 9 _ (by decide) (by decide)).mono ?_
  rintro e w2 ⟨v2, rfl, hV2, _, b2⟩
  have B2 := below_and B1 (Nat.le_refl _) b2
  obtain ⟨k2, neg2, od2, ld2, cd2, nm2, n2, ol2, ll2, cl2, ob2, lb2, cb2, rfl⟩ := hV2.form
  have hR2 := tr_one (ty := 31) (tv_low hV2)
  have b3 : Below w2.heap.size w2 (w2.alloc (.cells #[.int .i64 k2, .bool neg2, .slice od2 ld2 cd2, .string nm2, .int .i64 n2, .slice ol2 ll2 cl2, .slice ob2 lb2 cb2] 31)) := (Below.refl _ _).alloc (Nat.le_refl _) _
  have B3 := below_and B2 (Nat.le_refl _) b3
  clear hV2 B2 b3 b2 B1
  go_wp2_with fail
  generalize (w2.alloc (.cells #[.int .i64 k2, .bool neg2, .slice od2 ld2 cd2, .string nm2, .int .i64 n2, .slice ol2 ll2 cl2, .slice ob2 lb2 cb2] 31)) = w3 at *
  refine (rTuple_w [intT 9] _ _ _ (by decide) f9 hR2).mono ?_
  rintro e w4 ⟨v4, rfl, hV4, b4⟩
  have B4 := below_and B3 (Nat.le_refl _) b4
  obtain ⟨aod, aol, acl, aob, acd, acb, rfl⟩ := tup_form hV4
  have kA := Bx.new w4 (.int .i64 4) (.bool false) (.slice aod 0 acd) (.string noS) (.int .i64 0) (.slice aol 1 acl) (.slice aob 0 acb) 31
  have b5 : Below w4.heap.size w4 (w4.alloc (.cells #[.int .i64 4, .bool false, .slice aod 0 acd, .string noS, .int .i64 0, .slice aol 1 acl, .slice aob 0 acb] 31)) := (Below.refl _ _).alloc (Nat.le_refl _) _
  have hVA := tv_below (tv_low hV4) b5
  have B5 := below_and B4 (Nat.le_refl _) b5
  have hl9 : ([intT 9] : List Tm).length = 1 := rfl
  rw [hl9] at hVA
  clear hV4 b4 b5 B3 B4 hR2 hl9
  try simp only [List.length_cons, List.length_nil] at *
  go_wp2_with fail
  generalize hW5 : (w4.alloc (.cells #[.int .i64 4, .bool false, .slice aod 0 acd, .string noS, .int .i64 0, .slice aol 1 acl, .slice aob 0 acb] 31)) = w5 at *
  clear hW5
  refine (rInt_w 1 _ (by decide) (by decide)).mono ?_
  rintro e w6 ⟨v6, rfl, hV6, _, b6⟩
  obtain ⟨xk, xneg, xod, xld, xcd, xnm, xn, xol, xll, xcl, xob, xlb, xcb, rfl⟩ := hV6.form
  have B6 := below_and B5 (Nat.le_refl _) b6
  have kA6 := kA.below b6
  have hVA6 := tv_below hVA b6
  have hx6 := tv_low hV6
  clear hV6 b6 B5 kA hVA
  go_wp2_with fail
  refine (rInt_w 1 _ (by decide) (by decide)).mono ?_
  rintro e w7 ⟨v7, rfl, hV7, _, b7⟩
  obtain ⟨yk, yneg, yod, yld, ycd, ynm, yn, yol, yll, ycl, yob, ylb, ycb, rfl⟩ := hV7.form
  have B7 := below_and B6 (Nat.le_refl _) b7
  have kA7 := kA6.below b7
  have hVA7 := tv_below hVA6 b7
  have hx7 := tv_below hx6 b7
  have hy7 := tv_low hV7
  have b8 : Below w7.heap.size w7 (w7.alloc (.cells #[.int .i64 xk, .bool xneg, .slice xod xld xcd, .string xnm, .int .i64 xn, .slice xol xll xcl, .slice xob xlb xcb, .int .i64 yk, .bool yneg, .slice yod yld ycd, .string ynm, .int .i64 yn, .slice yol yll ycl, .slice yob ylb ycb] 31)) := (Below.refl _ _).alloc (Nat.le_refl _) _
  have hR8 := tr_pair (heap_alloc_new w7 (.cells #[.int .i64 xk, .bool xneg, .slice xod xld xcd, .string xnm, .int .i64 xn, .slice xol xll xcl, .slice xob xlb xcb, .int .i64 yk, .bool yneg, .slice yod yld ycd, .string ynm, .int .i64 yn, .slice yol yll ycl, .slice yob ylb ycb] 31)) (tv_below hx7 b8) (tv_below hy7 b8)
  have B8 := below_and B7 (Nat.le_refl _) b8
  have kA8 := kA7.below b8
  have hVA8 := tv_below hVA7 b8
  clear hV7 b7 b8 B6 B7 kA6 kA7 hVA6 hVA7 hx6 hx7 hy7
  go_wp2_with fail
  generalize (w7.alloc (.cells #[.int .i64 xk, .bool xneg, .slice xod xld xcd, .string xnm, .int .i64 xn, .slice xol xll xcl, .slice xob xlb xcb, .int .i64 yk, .bool yneg, .slice yod yld ycd, .string ynm, .int .i64 yn, .slice yol yll ycl, .slice yob ylb ycb] 31)) = w8 at *
  refine (rTuple_w [intT 1, intT 1] _ _ _ (by decide) f11 hR8).mono ?_
  rintro e w9 ⟨v9, rfl, hV9, b9⟩
  have B9 := below_and B8 (Nat.le_refl _) b9
  obtain ⟨bod, bol, bcl, bob, bcd, bcb, rfl⟩ := tup_form hV9
  have kB := Bx.new w9 (.int .i64 4) (.bool false) (.slice bod 0 bcd) (.string noS) (.int .i64 0) (.slice bol 2 bcl) (.slice bob 0 bcb) 31
  have b10 : Below w9.heap.size w9 (w9.alloc (.cells #[.int .i64 4, .bool false, .slice bod 0 bcd, .string noS, .int .i64 0, .slice bol 2 bcl, .slice bob 0 bcb] 31)) := (Below.refl _ _).alloc (Nat.le_refl _) _
  have hVB := tv_below (tv_low hV9) b10
  have hl11 : ([intT 1, intT 1] : List Tm).length = 2 := rfl
  rw [hl11] at hVB
  have kA10 := (kA8.below b9).below b10
  have hVA10 := tv_below (tv_below hVA8 b9) b10
  have B10 := below_and B9 (Nat.le_refl _) b10
  clear hV9 b9 b10 B8 B9 kA8 hVA8 hR8 hl11
  try simp only [List.length_cons, List.length_nil] at *
  obtain ⟨p0, p1, p2, p3, p4, p5, p6⟩ := kA10.res
  obtain ⟨q0, q1, q2, q3, q4, q5, q6⟩ := kB.res
  have hz10 : (w9.alloc (.cells #[.int .i64 4, .bool false, .slice bod 0 bcd, .string noS, .int .i64 0, .slice bol 2 bcl, .slice bob 0 bcb] 31)).heap.size = w9.heap.size + 1 := by simp
  have Hz10 := hid hz10
  clear hz10
  go_wp2_with fail
  clear p0 p1 p2 p3 p4 p5 p6 q0 q1 q2 q3 q4 q5 q6
  have hz10 := Hz10.out
  generalize (w9.alloc (.cells #[.int .i64 4, .bool false, .slice bod 0 bcd, .string noS, .int .i64 0, .slice bol 2 bcl, .slice bob 0 bcb] 31)) = w10 at *
  rw [← hz10]
  clear hz10 Hz10
  have b11 : Below w10.heap.size w10 (w10.alloc (.cells #[.int .i64 4, .bool false, .slice bod 0 bcd, .string noS, .int .i64 0, .slice bol 2 bcl, .slice bob 0 bcb, .int .i64 4, .bool false, .slice aod 0 acd, .string noS, .int .i64 0, .slice aol 1 acl, .slice aob 0 acb] 31)) := (Below.refl _ _).alloc (Nat.le_refl _) _
  have hR11 := tr_pair (heap_alloc_new w10 (.cells #[.int .i64 4, .bool false, .slice bod 0 bcd, .string noS, .int .i64 0, .slice bol 2 bcl, .slice bob 0 bcb, .int .i64 4, .bool false, .slice aod 0 acd, .string noS, .int .i64 0, .slice aol 1 acl, .slice aob 0 acb] 31)) (tv_below hVB b11) (tv_below hVA10 b11)
  have B11 := below_and B10 (Nat.le_refl _) b11
  have kA11 := kA10.below b11
  have kB11 := kB.below b11
  have hVA11 := tv_below hVA10 b11
  have hVB11 := tv_below hVB b11
  clear kA10 kB hVA10 hVB B10 b11
  generalize (w10.alloc (.cells #[.int .i64 4, .bool false, .slice bod 0 bcd, .string noS, .int .i64 0, .slice bol 2 bcl, .slice bob 0 bcb, .int .i64 4, .bool false, .slice aod 0 acd, .string noS, .int .i64 0, .slice aol 1 acl, .slice aob 0 acb] 31)) = w11 at *
  refine (Max_o tB [tA] _ _ _ (by decide) (by decide) hR11 allBA (hT.below B11)).mono ?_
  rw [mxBA]
  rintro e w12 ⟨v12, rfl, hV12, b12⟩
  obtain ⟨mod, mol, mcl, mob, mcd, mcb, rfl⟩ := tup_form hV12
  have hl11 : ([intT 1, intT 1] : List Tm).length = 2 := rfl
  rw [hl11] at *
  have B12 := below_and B11 (Nat.le_refl _) b12
  have kA12 := kA11.below b12
  have kB12 := kB11.below b12
  have hVA12 := tv_below hVA11 b12
  have hVB12 := tv_below hVB11 b12
  have kM := Bx.new w12 (.int .i64 4) (.bool false) (.slice mod 0 mcd) (.string noS) (.int .i64 0) (.slice mol 2 mcl) (.slice mob 0 mcb) 31
  have b13 : Below w12.heap.size w12 (w12.alloc (.cells #[.int .i64 4, .bool false, .slice mod 0 mcd, .string noS, .int .i64 0, .slice mol 2 mcl, .slice mob 0 mcb] 31)) := (Below.refl _ _).alloc (Nat.le_refl _) _
  have B13 := below_and B12 (Nat.le_refl _) b13
  have kA13 := kA12.below b13
  have kB13 := kB12.below b13
  have hVA13 := tv_below hVA12 b13
  have hVB13 := tv_below hVB12 b13
  clear hV12 B11 kA11 kB11 hVA11 hVB11 hR11 b12 b13 B12 kA12 kB12 hVA12 hVB12 hl11
  go_wp2_with fail
  generalize (w12.alloc (.cells #[.int .i64 4, .bool false, .slice mod 0 mcd, .string noS, .int .i64 0, .slice mol 2 mcl, .slice mob 0 mcb] 31)) = w13 at *
  refine (Max_nil none 0 _).mono ?_
  rintro e w14 ⟨rfl, b14⟩
  have b15 : Below w14.heap.size w14 (w14.alloc (.cells #[.int .i64 0, .bool false, .slice none 0 0, .string { data := #[] }, .int .i64 0, .slice none 0 0, .slice none 0 0] 31)) := (Below.refl _ _).alloc (Nat.le_refl _) _
  have b15' := below_and b14 (Nat.le_refl _) b15
  have B15 := below_and B13 (Nat.le_refl _) b15'
  have kA15 := kA13.below b15'
  have kB15 := kB13.below b15'
  have kM15 := kM.below b15'
  have hVA15 := tv_below hVA13 b15'
  have hVB15 := tv_below hVB13 b15'
  clear kA13 kB13 kM hVA13 hVB13 B13 b14 b15 b15'
  have hz15 : (w14.alloc (.cells #[.int .i64 0, .bool false, .slice none 0 0, .string { data := #[] }, .int .i64 0, .slice none 0 0, .slice none 0 0] 31)).heap.size = w14.heap.size + 1 := by simp
  have Hz15 := hid hz15
  clear hz15
  go_upto_region 7 with fail
  have hz15 := Hz15.out
  generalize (w14.alloc (.cells #[.int .i64 0, .bool false, .slice none 0 0, .string { data := #[] }, .int .i64 0, .slice none 0 0, .slice none 0 0] 31)) = w15 at *
  clear hz15 Hz15
  obtain ⟨p0, p1, p2, p3, p4, p5, p6⟩ := kA15.res
  obtain ⟨q0, q1, q2, q3, q4, q5, q6⟩ := kB15.res
  go_wp2_with fail
  clear p0 p1 p2 p3 p4 p5 p6 q0 q1 q2 q3 q4 q5 q6
  have b16 : Below w15.heap.size w15 (w15.alloc (.cells #[.int .i64 4, .bool false, .slice bod 0 bcd, .string noS, .int .i64 0, .slice bol 2 bcl, .slice bob 0 bcb, .int .i64 4, .bool false, .slice aod 0 acd, .string noS, .int .i64 0, .slice aol 1 acl, .slice aob 0 acb] 31)) := (Below.refl _ _).alloc (Nat.le_refl _) _
  have hR16 := tr_pair (heap_alloc_new w15 (.cells #[.int .i64 4, .bool false, .slice bod 0 bcd, .string noS, .int .i64 0, .slice bol 2 bcl, .slice bob 0 bcb, .int .i64 4, .bool false, .slice aod 0 acd, .string noS, .int .i64 0, .slice aol 1 acl, .slice aob 0 acb] 31)) (tv_below hVB15 b16) (tv_below hVA15 b16)
  have B16 := below_and B15 (Nat.le_refl _) b16
  have kA16 := kA15.below b16
  have kB16 := kB15.below b16
  have kM16 := kM15.below b16
  have hVA16 := tv_below hVA15 b16
  have hVB16 := tv_below hVB15 b16
  clear kA15 kB15 kM15 hVA15 hVB15 B15 b16
  generalize (w15.alloc (.cells #[.int .i64 4, .bool false, .slice bod 0 bcd, .string noS, .int .i64 0, .slice bol 2 bcl, .slice bob 0 bcb, .int .i64 4, .bool false, .slice aod 0 acd, .string noS, .int .i64 0, .slice aol 1 acl, .slice aob 0 acb] 31)) = w16 at *
  refine (Sort_o [tB, tA] _ _ _ (by decide) hR16 allBA (hT.below B16)).mono ?_
  rw [isBA]
  rintro e w17 ⟨g, c', rfl, _, hR17, b17⟩
  have B17 := below_and B16 (Nat.le_refl _) b17
  have kA17 := kA16.below b17
  have kB17 := kB16.below b17
  have kM17 := kM16.below b17
  have hVA17 := tv_below hVA16 b17
  have hVB17 := tv_below hVB16 b17
  clear kA16 kB16 kM16 hVA16 hVB16 B16 hR16
  unfold TR at hR17
  obtain ⟨ra, rv, e0, _, hA7, hVr, _⟩ := hR17
  obtain rfl := Option.some.inj e0
  obtain ⟨rod, rol, rcl, rob, rcd, rcb, rfl⟩ := tup_form hVr
  obtain ⟨_, _, _, _, _, r5, _⟩ := hA7.tm
  obtain ⟨p0, p1, p2, p3, p4, p5, p6⟩ := kA17.res
  obtain ⟨q0, q1, q2, q3, q4, q5, q6⟩ := kB17.res
  obtain ⟨_, _, _, _, _, m5, _⟩ := kM17.res
  try simp only [List.length_cons, List.length_nil] at *
  go_wp2_with fail
  clear p0 p1 p2 p3 p4 p5 p6 q0 q1 q2 q3 q4 q5 q6
  refine (Compare_o tA tB _ _ _ hVA17 hVB17 wA wB dA (hT.below B17)).mono ?_
  rw [cAB]
  rintro e w18 ⟨rfl, b18⟩
  have B18 := below_and B17 (Nat.le_refl _) b18
  have r5' : w18.cell? ⟨g, 5, none⟩ = some (.slice rol 1 rcl) := (b18.cell (World.block_lt_of_cell? _ _ r5)).trans r5
  have m5' : w18.cell? ⟨w12.heap.size, 5, none⟩ = some (.slice mol 2 mcl) := (b18.cell (World.block_lt_of_cell? _ _ m5)).trans m5
  clear r5 m5 kA17 kB17 kM17 hVA17 hVB17 hA7 hVr B17 b18
  go_wp2
  go_ret
  exact ⟨rfl, B18⟩
end Go.Proofs.YtpdoepjnkgffpaaDoor.orderKnown
