/- Texts of mine, one behind the other: TextAw, OrdMakers, TextRf8, TextRf9, TextRfA. -/
import Derived.Test.YtlojfmlaookpmaaGreatDoorSqT
import Derived.Test.YtlojfmlaookpmaaGreatDoorSqN
import Derived.Test.YtlojfmlaookpmaaGreatDoorSqI
import Derived.Test.YtlojfmlaookpmaaGreatDoorSqR
import Derived.Test.YtlojfmlaookpmaaGreatDoorSqK
set_option linter.unusedSimpArgs false
set_option linter.unusedVariables false
set_option maxRecDepth 2000
open Array renaming getElem?_eq_some_iff → zge
namespace Go.Proofs.YtlojfmlaookpmaaGreatDoor
open Go.ChangeShapes Go.WideShapes Go.ChangeAt Go.RowKit Go.Shelf
abbrev akO : ByteArray := ⟨#[111, 107]⟩
abbrev akT : Tm := tupT [atomT akO, numT 3 3]
abbrev akL : List UInt8 := [123, 111, 107, 44, 60, 51, 62, 125]
theorem ak4 : paE akL = 0 := by kernel_rfl
theorem ak5 : paT akL = some akT := by kernel_rfl
theorem ak6 : prE akT = 0 := by kernel_rfl
theorem ak7 : prS akT = akL := by kernel_rfl
theorem ak8 : ∀ p ∈ partsL [atomT akO, numT 3 3], p.ok1 ∧ fairB p = true := by
 intro p hp
 simp only [partsL, parts_atom, List.mem_append, List.mem_cons, List.not_mem_nil, or_false] at hp
 rcases hp with rfl | hp
 · exact ⟨gd_atom (nm := akO) (by decide) _ (by rw [parts_atom]; simp), by kernel_rfl⟩
 · have hp : p = numT 3 3 := by simpa [numT, parts, partsL] using hp
   subst hp
   exact ⟨gd_num 3 3 _ (by simp [numT, parts]), by kernel_rfl⟩
theorem akAtom_w (nm : ByteArray) (w : World) : Calls Tryz.prog 12 #[.string nm] w fun e w' => e = .returned (tmV 1 false nilS nm 0 nilS nilS) ∧ Below w.heap.size w w' := by
 go_enter Tryz.func12, Tryz.ntmps12
 go_wp2
 exact bodyPost_ret (v := tmV 1 false nilS nm 0 nilS nilS) (by simp [results, Tryz.results12, go_sem]) rfl ⟨rfl, (Below.refl _ w).alloc (Nat.le_refl _) _⟩
def AwakeOk : Prop := ∀ w : World, TabX w → Calls Tryz.prog 4 #[] w fun e w' => e = .returned (.bool true) ∧ Below w.heap.size w w'
set_option maxHeartbeats 4000000 in
theorem awake_ok : AwakeOk := by
 intro w hT
 have c1 := akAtom_w akO w
 go_enter Tryz.func4, Tryz.ntmps4
 go_wp2_with fail
 refine c1.mono ?_
 rintro e w1 ⟨rfl, b1⟩
 obtain ⟨W2, hW2⟩ : ∃ W2, W2 = w1.alloc (.cells #[.int .i64 1, .bool false, nilS, .string akO, .int .i64 0, nilS, nilS, .int .i64 3, .bool false, nilS, .string noS, .int .i64 3, nilS, nilS] 27) := ⟨_, rfl⟩
 have b2 : Below w1.heap.size w1 W2 := by rw [hW2]; exact (Below.refl _ w1).alloc (Nat.le_refl _) _
 have hg2 : W2.heap[w1.heap.size]? = some (.cells #[.int .i64 1, .bool false, nilS, .string akO, .int .i64 0, nilS, nilS, .int .i64 3, .bool false, nilS, .string noS, .int .i64 3, nilS, nilS] 27 (0, 0)) := by rw [hW2]; exact heap_alloc_new w1 _
 have hTR : TR (Low W2) W2 [atomT akO, numT 3 3] (some ⟨w1.heap.size, 0, none⟩) := tr_two (tv_flat 1 akO 0) (tv_flat 3 noS 3) hg2 (zge.1 hg2).1
 have c2 := rTuple_w [atomT akO, numT 3 3] (some ⟨w1.heap.size, 0, none⟩) 2 W2 (by simp) ak8 hTR
 have bw2 := below_and b1 (Nat.le_refl _) b2
 rw [hW2] at c2
 have hW2H := hid hW2
 have bw2H := hid bw2
 have hTH := hid hT
 clear c1 b1 b2 hg2 hTR hW2 bw2 hT
 go_wp2_with fail
 refine c2.mono ?_
 rw [← hW2H.out]
 rintro e w3 ⟨v3, rfl, hV3, b3⟩
 have bw3 := below_and bw2H.out (Nat.le_refl _) b3
 have hTX := hTH.out.below bw3
 have c3 := print_w akT v3 w3 (by decide) (fun p hp => by
   rw [parts_tup] at hp
   rcases List.mem_cons.1 hp with rfl | hp
   · exact ⟨by simp, by decide, by simp, by simp, Lm.nil _⟩
   · exact (ak8 p hp).1) (TV.mono (fun k hk hz => hk) _ _ hV3) hTX.1.1 hTX.1 hTX.2
 rw [ak6, ak7, show (⟨akL.toArray⟩ : ByteArray) = ⟨#[123, 111, 107, 44, 60, 51, 62, 125]⟩ from rfl] at c3
 have bw3H := hid bw3
 clear c2 hV3 b3 bw3 hTX
 go_wp2_with fail
 refine c3.mono ?_
 rintro e w4 ⟨rfl, b4⟩
 have bw4 := below_and bw3H.out (Nat.le_refl _) b4
 have c4 := Parse_w akL w4 (hTH.out.below bw4) (by decide)
 rw [ak4, ak5, show bs akL = ⟨#[123, 111, 107, 44, 60, 51, 62, 125]⟩ from rfl] at c4
 have bw4H := hid bw4
 clear c3 b4 bw4
 go_wp2_with fail
 refine c4.mono ?_
 rintro e w5 ⟨v5, rfl, hV5, b5⟩
 have hV5' : TV (ZnS w4.heap.size w5) w5 akT v5 := hV5
 have bw5 := hid (below_and bw4H.out (Nat.le_refl _) b5)
 unfold tupT TV at hV5'
 obtain ⟨od, cd, ol, cl, ob, cb, rfl, _, _, _, _, _, hcl, hTR⟩ := hV5'
 obtain ⟨pa, pk, pneg, pod, pld, pcd, pnm, pn, pol, pll, pcl, pob, plb, pcb, rfl, hTp, y0, y1, y2, y3, y4, y5, y6⟩ := hTR.get3 (i := 1) (t := numT 3 3) rfl
 have hpn : pn = 3 := by
   unfold numT TV at hTp
   obtain ⟨_, _, _, _, _, _, e, _⟩ := hTp
   simp only [tmV, Value.agg.injEq, Array.mk.injEq, List.cons.injEq, Value.int.injEq, true_and] at e
   exact e.2.2.2.2.1
 subst hpn
 rw [Nat.one_mul, add7] at y0 y1 y2 y3 y4 y5 y6
 simp only [List.length_cons, List.length_nil, Nat.zero_add, Nat.reduceAdd]
 obtain ⟨W6, hW6⟩ : ∃ W6, W6 = w5.alloc (.cells #[.int .i64 4, .bool false, .slice od 0 cd, .string noS, .int .i64 0, .slice (some pa) 2 cl, .slice ob 0 cb] 27) := ⟨_, rfl⟩
 have b6 : Below w5.heap.size w5 W6 := by rw [hW6]; exact (Below.refl _ w5).alloc (Nat.le_refl _) _
 have hg6 : W6.heap[w5.heap.size]? = some (.cells #[.int .i64 4, .bool false, .slice od 0 cd, .string noS, .int .i64 0, .slice (some pa) 2 cl, .slice ob 0 cb] 27 (0, 0)) := by rw [hW6]; exact heap_alloc_new w5 _
 obtain ⟨x0, x1, x2, x3, x4, x5, x6⟩ := cell7 hg6
 have y4' := (b6.cell (World.block_lt_of_cell? _ _ y4)).trans y4
 have bw6 := hid (below_and bw5.out (Nat.le_refl _) b6)
 have hW6H := hid hW6
 clear hTR hTp y0 y1 y2 y3 y4 y5 y6 hV5 c4 b5 b6 hg6 hW6 hcl
 go_upto_region 3 with fail
 rw [← hW6H.out]
 go_wp2
 go_ret
 exact ⟨rfl, bw6.out⟩
open Go.ChangeMaps
set_option maxHeartbeats 1000000 in
theorem rNum_w (v : Value) (Z : Int) (K : Nat) (w : World) (hK : K ≤ 1000000) (h : IsN v Z K w) :
   Calls Tryz.prog 31 #[v] w fun e w' => ∃ v', e = .returned v' ∧ TV (Zw w.heap.size w') w' (intT Z) v' ∧ (glim 4294967296 Z.natAbs).length ≤ K ∧ Below w.heap.size w w' := by
 have hN : ∀ w', Below w.heap.size w w' → IsN v Z K w' := fun w' hb => h.below hb
 obtain ⟨neg, o, l, c, rfl, hL, hc, hm, hs, hk⟩ := h
 clear hL hc hm hs hk
 obtain ⟨kA, kB, hB0, hz0⟩ := bx27 w (.bool neg) (.slice o l.length c) (.int .i64 0) (.bool false) nilS (.string noS) (.int .i64 0) nilS nilS 68 27
 go_enter Tryz.func31, Tryz.ntmps31
 go_wp2_with fail
 generalize ((w.alloc (.cells #[.bool neg, .slice o l.length c] 68)).alloc (.cells #[.int .i64 0, .bool false, .slice none 0 0, .string { data := #[] }, .int .i64 0, .slice none 0 0, .slice none 0 0] 27)) = W0 at *
 refine (rnorm_w _ Z K _ hK (hN _ hB0)).mono ?_
 rintro e w1 ⟨sl, rfl, hF, hKK, b1⟩
 obtain ⟨o1, c1, rfl, _, _, _⟩ := hF.parts
 have hF' : w1.ownsRow (w.heap.size + 2) 133 1 (.slice o1 (glim 4294967296 Z.natAbs).length c1) (glim 4294967296 Z.natAbs).length (lim (glim 4294967296 Z.natAbs)) := own_mono (show w1.ownsRow W0.heap.size 133 1 _ _ _ from hF) (by omega)
 clear hF
 have hHF := hid hF'
 clear hF'
 have hB1 := below_and hB0 (by omega) b1
 have kA1 := kA.below b1 (by omega)
 have kB1 := kB.below b1
 have hz1 := b1.size
 clear hB0 kA kB b1 hN
 obtain ⟨f1, f2, f3, f4⟩ := id kA1
 have kA2 : Box w.heap.size (.bool (decide (Z < 0))) (.slice o1 (glim 4294967296 Z.natAbs).length c1) ((w1.setCell ⟨w.heap.size, 0, none⟩ (.bool (decide (Z < 0)))).setCell ⟨w.heap.size, 1, none⟩ (.slice o1 (glim 4294967296 Z.natAbs).length c1)) := kA1.put
 have ho2 : Only w.heap.size w1 ((w1.setCell ⟨w.heap.size, 0, none⟩ (.bool (decide (Z < 0)))).setCell ⟨w.heap.size, 1, none⟩ (.slice o1 (glim 4294967296 Z.natAbs).length c1)) := (only_set w1 w.heap.size 0 _).setCell 1 _
 have kB2 := kB1.only ho2 (by omega)
 have hB2 := hB1.trans (ho2.below (B := w.heap.size) (Nat.le_refl _))
 have hz2 := ho2.2.1
 go_upto_region 2 with fail
 clear f1 f2 f3 f4 kA1 kB1
 generalize hW2 : (w1.setCell ⟨w.heap.size, 0, none⟩ (.bool (decide (Z < 0)))).setCell ⟨w.heap.size, 1, none⟩ (.slice o1 (glim 4294967296 Z.natAbs).length c1) = w2 at *
 clear hW2
 obtain ⟨f1, f2, f3, f4⟩ := id kA2
 have hf := kB2.fr
 obtain ⟨g0, g1, g2, g3, g4, g5, g6⟩ := kB2.res
 obtain ⟨zb, hzb⟩ : ∃ zb, decide (Z < 0) = zb := ⟨_, rfl⟩
 have hHz := hid hzb
 rw [hzb] at f1 ⊢
 clear hzb
 have hput := kB2.put (b0 := .int .i64 0) (b1 := .bool zb) (b2 := .slice o1 (glim 4294967296 Z.natAbs).length c1) (b3 := .string noS) (b4 := .int .i64 0) (b5 := nilS) (b6 := nilS)
 have hon := only_put w2 (w.heap.size + 1) (.int .i64 0) (.bool zb) (.slice o1 (glim 4294967296 Z.natAbs).length c1) (.string noS) (.int .i64 0) nilS nilS
 obtain ⟨r0, r1, r2, r3, r4, r5, r6⟩ := hput.res
 have hfin : TV (Zw w.heap.size (((((((w2.setCell ⟨w.heap.size + 1, 0, none⟩ (.int .i64 0)).setCell ⟨w.heap.size + 1, 1, none⟩ (.bool zb)).setCell ⟨w.heap.size + 1, 2, none⟩ (.slice o1 (glim 4294967296 Z.natAbs).length c1)).setCell ⟨w.heap.size + 1, 3, none⟩ (.string noS)).setCell ⟨w.heap.size + 1, 4, none⟩ (.int .i64 0)).setCell ⟨w.heap.size + 1, 5, none⟩ nilS).setCell ⟨w.heap.size + 1, 6, none⟩ nilS)) (((((((w2.setCell ⟨w.heap.size + 1, 0, none⟩ (.int .i64 0)).setCell ⟨w.heap.size + 1, 1, none⟩ (.bool zb)).setCell ⟨w.heap.size + 1, 2, none⟩ (.slice o1 (glim 4294967296 Z.natAbs).length c1)).setCell ⟨w.heap.size + 1, 3, none⟩ (.string noS)).setCell ⟨w.heap.size + 1, 4, none⟩ (.int .i64 0)).setCell ⟨w.heap.size + 1, 5, none⟩ nilS).setCell ⟨w.heap.size + 1, 6, none⟩ nilS) (intT Z) (tmV 0 zb (.slice o1 (glim 4294967296 Z.natAbs).length c1) noS 0 nilS nilS) := by
   have := tv_int (S := w.heap.size) (w' := (((((((w2.setCell ⟨w.heap.size + 1, 0, none⟩ (.int .i64 0)).setCell ⟨w.heap.size + 1, 1, none⟩ (.bool zb)).setCell ⟨w.heap.size + 1, 2, none⟩ (.slice o1 (glim 4294967296 Z.natAbs).length c1)).setCell ⟨w.heap.size + 1, 3, none⟩ (.string noS)).setCell ⟨w.heap.size + 1, 4, none⟩ (.int .i64 0)).setCell ⟨w.heap.size + 1, 5, none⟩ nilS).setCell ⟨w.heap.size + 1, 6, none⟩ nilS)) hHF.out (by omega) (fun g hg hg2 => (hon.2.2 g (by omega)).trans (ho2.2.2 g (by omega)))
   rw [hHz.out] at this
   exact this
 have hBf := hB2.trans (hon.below (B := w.heap.size) (by omega))
 have hHf := hid hfin
 have hHk := hid hKK
 clear hfin hHF hon ho2 hB2 hB1 hKK
 go_wp2
 exact bodyPost_ret (v := tmV 0 zb (.slice o1 (glim 4294967296 Z.natAbs).length c1) noS 0 nilS nilS) (by simp [results, Tryz.results31, go_sem, r0, r1, r2, r3, r4, r5, r6]) rfl ⟨_, rfl, hHf.out, hHk.out, hBf⟩
set_option maxHeartbeats 1000000 in
theorem rAtom_w (nm : ByteArray) (w : World) : Calls Tryz.prog 12 #[.string nm] w fun e w' => e = .returned (tmV 1 false nilS nm 0 nilS nilS) ∧ Below w.heap.size w w' := by
 go_enter Tryz.func12, Tryz.ntmps12
 go_wp2
 exact bodyPost_ret (v := tmV 1 false nilS nm 0 nilS nilS) (by simp [results, Tryz.results12, go_sem]) rfl ⟨rfl, (Below.refl _ w).alloc (Nat.le_refl _) _⟩
end Go.Proofs.YtlojfmlaookpmaaGreatDoor
namespace Go.Proofs.YtlojfmlaookpmaaGreatDoor
open Go.ChangeShapes Go.WideShapes Go.ChangeAt Go.RowKit Go.Shelf
structure RdO (g : Nat) (s : List UInt8) (i : Nat) (b : Bool) (n : Nat) (T : Tm) (v : Value) (w w' : World) : Prop where
 tv : TV (Zb w.heap.size w') w' T v
 rd : RRf g s i b n w'
 kp : Kpt (fun k => k = g) w w'
theorem only_kpt {g B : Nat} {w W W' : World} (h : Kpt (fun k => k = g) w W) (ho : Only B W W') (hB : w.heap.size ≤ B) : Kpt (fun k => k = g) w W' :=
 ⟨ho.1.os.trans h.os, ho.1.tape.trans h.tape, ho.1.output.trans h.output, by rw [ho.2.1]; exact h.size, fun k hk hn => (ho.2.2 k (by omega)).trans (h.block k hk hn)⟩
theorem rdo_fin {g : Nat} {s : List UInt8} {i : Nat} {b : Bool} {n : Nat} {T : Tm} {v : Value} {w W W' : World} {S : Nat} (hT : TV (Zb S W) W T v) (hS : w.heap.size + 1 ≤ S) (hR : RRf g s i b n W) (hK : Kpt (fun k => k = g) w W) (hg : g < w.heap.size) (ho : Only w.heap.size W W') : RdO g s i b n T v w W' := by
 refine ⟨TV.mono (fun k hk hz => ⟨by have := hz.1; omega, by show k < W'.heap.size; rw [ho.2.1]; exact hz.2⟩) _ _ (TV.zs (fun k hk => ho.2.2 k (by have := hk.1; omega)) _ _ hT), ⟨(ho.2.2 g (by omega)).trans hR.at_⟩, only_kpt hK ho (Nat.le_refl _)⟩
theorem tv_flatZ {Z : Nat → Prop} {w : World} (k : Int) (nm : ByteArray) (n : Int) : TV Z w (.mk k false [] nm n [] []) (tmV k false nilS nm n nilS nilS) := tv_bare (w := w) (Z := Zw 0 w) (tv_flat k nm n)
theorem tw_len_le {r : List UInt8} : (r.takeWhile digB).length ≤ r.length := (List.takeWhile_prefix digB).length_le
set_option maxHeartbeats 4000000 in
theorem ratom_w (g : Nat) (s : List UInt8) (i n : Nat) (hs : s.length ≤ 3000) (hi : i ≤ s.length) (hv : Lib.validD (s.drop i) = true) (w : World) (hTQ : TabsQ w) (h : RRf g s i false n w) (hkq : ∀ w', Kpt (fun k => k = g) w w' → TabsQ w') :
   Calls Tryz.prog 37 #[.pointer (some ⟨g, 0, none⟩)] w fun e w' => ∃ v T i' b, e = .returned v ∧ RdO g s i' b n T v w w' ∧ i' ≤ s.length ∧ (b = false → nameL (s.drop i) = (some T, s.drop i')) ∧ (b = true → (nameL (s.drop i)).1 = none) := by
 obtain ⟨r, hr⟩ : ∃ r, s.drop i = r := ⟨_, rfl⟩
 rw [hr] at hv
 rw [hr]
 have hrl : r.length ≤ 3000 := by rw [← hr, List.length_drop]; omega
 have hrH := hid hr
 obtain ⟨S, hS⟩ : ∃ S, bs s = S := ⟨_, rfl⟩
 have hsz : S.size = s.length := by rw [← hS]; exact bs_size s
 have hexr : S.extract i S.size = bs r := by rw [← hS, ← hr]; exact ex_drop s i
 have c2 := fun w' (hb : Kpt (fun k => k = g) w w') => runquote_w (bs r) w' (by rw [bs_size]; omega) (hkq w' hb)
 rw [bs_list] at c2
 unfold val3 at c2
 have hA1 := fun x m => name_all (r := r) (x := x) (n := m) hv (by omega)
 have hA2 := name_none (r := r) hv (by omega)
 have hsz2 := (unq_sizes r (by omega)).2
 have hsz1 := (unq_sizes r (by omega)).1
 obtain ⟨E, X, SZ, hU⟩ : ∃ E X SZ, unqQ r = (E, X, SZ) := ⟨_, _, _, rfl⟩
 rw [hU] at c2 hA2 hsz1 hsz2
 have hA3 := hA1 X SZ
 rw [hU] at hA3
 simp only at c2 hA2 hsz1 hsz2
 have hex2 : S.extract i (i + SZ) = bs (r.take SZ) := by rw [← hS, bs_ext, hr, Nat.add_sub_cancel_left]
 have c3 := fun w' (hb : Kpt (fun k => k = g) w w') => rquote_w (bs X) w' (by rw [bs_size]; omega) (hkq w' hb)
 rw [bs_list] at c3
 obtain ⟨A, hA⟩ : ∃ A, bs (r.take SZ) = A := ⟨_, rfl⟩
 obtain ⟨Q, hQ'⟩ : ∃ Q : ByteArray, ⟨(quoteL X).toArray⟩ = Q := ⟨_, rfl⟩
 obtain ⟨XB, hXB⟩ : ∃ XB, bs X = XB := ⟨_, rfl⟩
 obtain ⟨RB, hRB⟩ : ∃ RB, bs r = RB := ⟨_, rfl⟩
 rw [hA] at hex2
 rw [hQ', hXB] at c3
 rw [hRB] at c2 hexr
 rw [show (⟨X.toArray⟩ : ByteArray) = XB from hXB] at c2
 have hinj : (r.take SZ = quoteL X) ↔ A = Q := by
   rw [← hA, ← hQ']
   constructor
   · intro e; rw [e]; rfl
   · intro e
     have := congrArg (fun b : ByteArray => b.data.toList) e
     simpa [bs] using this
 have hgw := h.lt
 have hH := hid h
 have c2H := hid c2
 have c3H := hid c3
 have hA2H := hid hA2
 have hA3H := hid hA3
 have hinH := hid hinj
 have hz1 : (i : Int) ≤ (S.size : Int) := by omega
 have hz2 : (i : Int) + (SZ : Int) ≤ (S.size : Int) := by
   have : r.length = s.length - i := by rw [← hr, List.length_drop]
   omega
 have hz3 : (i : Int) ≤ (i : Int) + (SZ : Int) := by omega
 have hz4 : (S.size : Int) ≤ 3000 := by omega
 have htn : ((i : Int) + (SZ : Int)).toNat = i + SZ := by omega
 have hw2 : wrap64 ((i : Int) + (SZ : Int)) = (i : Int) + (SZ : Int) := by unfold wrap64; omega
 have hw3 : IntKind.i64.wrap ((i : Int) + (SZ : Int)) = (i : Int) + (SZ : Int) := by rw [IntKind.wrap_i64]; omega
 have hni : Hid (i + SZ ≤ s.length) := hid (by omega)
 have hXH := hid hXB
 have hSH := hid hS
 have hdr : Hid (s.drop (i + SZ) = r.drop SZ) := hid (by rw [← List.drop_drop, hr])
 clear hA1 hA2 hA3 hinj c2 c3 h hv hTQ hr hrl hA hQ' hRB hsz hU hsz1 hsz2 hkq hS hXB
 have hRB0 := heap_alloc_new w (.cells #[.int .i64 0, .bool false, .slice none 0 0, .string ⟨#[]⟩, .int .i64 0, .slice none 0 0, .slice none 0 0] 27)
 have bW0 : Below w.heap.size w (w.alloc (.cells #[.int .i64 0, .bool false, .slice none 0 0, .string ⟨#[]⟩, .int .i64 0, .slice none 0 0, .slice none 0 0] 27)) := (Below.refl _ w).alloc (Nat.le_refl _) _
 have hW0s : (w.alloc (.cells #[.int .i64 0, .bool false, .slice none 0 0, .string ⟨#[]⟩, .int .i64 0, .slice none 0 0, .slice none 0 0] 27)).heap.size = w.heap.size + 1 := by simp
 go_enter Tryz.func37, Tryz.ntmps37
 go_upto_region 1 with fail
 generalize (w.alloc (.cells #[.int .i64 0, .bool false, .slice none 0 0, .string { data := #[] }, .int .i64 0, .slice none 0 0, .slice none 0 0] 27)) = W0 at *
 have hR0 := hH.out.below bW0
 obtain ⟨y0, y1, y2, y3, f1, f2, f3⟩ := hR0.cells
 rw [hSH.out] at y0
 have hS0 : Hid (∀ w', Below W0.heap.size W0 w' → w'.cell? ⟨g, 0, none⟩ = some (.string S) ∧ w'.cell? ⟨g, 1, none⟩ = some (.int .i64 (i : Int))) := hid (fun w' hb => ⟨(hb.cell (World.block_lt_of_cell? _ _ y0)).trans y0, (hb.cell (World.block_lt_of_cell? _ _ y1)).trans y1⟩)
 have kd : Kpt (fun k => k = g) w W0.drew := Kpt.of_below bW0.drew
 have c2 := c2H.out W0.drew kd
 have c2sz : W0.drew.heap.size = W0.heap.size := rfl
 go_region_held3 (fun w' => w'.cell? ⟨g, 0, none⟩ = some (.string S) ∧ w'.cell? ⟨g, 1, none⟩ = some (.int .i64 (i : Int))) (first | go_keep) (first | (go_at_call 69; refine c2.mono ?_; rintro e w2 ⟨rfl, b2⟩; have z0 := hS0.out w2 ((Below.refl W0.heap.size W0).drew.trans b2)))
 have bd : Below W0.heap.size W0 w2 := (Below.refl W0.heap.size W0).drew.trans b2
 have bw2 : Below w.heap.size w w2 := bW0.trans (below_le bd (by omega))
 have hR2 := hid (hH.out.below bw2)
 have hK2 := hid (Kpt.of_below (F := fun k => k = g) bw2)
 have hRB2 := hid ((bd.block w.heap.size (by omega)).trans hRB0)
 have hs2 : w.heap.size + 1 ≤ w2.heap.size := by have := bd.size; omega
 clear c2 b2 bd bw2 z0 hR0 hS0 kd c2sz y0 y1 y2 y3 f1 f2 f3 hRB0 bW0 hW0s hH c2H
 by_cases hE : E = 0
 · subst hE
   by_cases hAQ : A = Q
   · have hcmp : (Q.toList == A.toList) = true := by rw [hAQ]; simp
     have hAQH := hid hAQ
     clear hAQ
     have hgood := hid (hA3H.out rfl (hinH.out.2 hAQH.out))
     clear hA2H hA3H hinH
     obtain ⟨y0, y1, y2, y3, f1, f2, f3⟩ := hR2.out.cells
     rw [hSH.out] at y0
     have hS2 : Hid (∀ w', Below w2.heap.size w2 w' → w'.cell? ⟨g, 0, none⟩ = some (.string S) ∧ w'.cell? ⟨g, 1, none⟩ = some (.int .i64 (i : Int))) := hid (fun w' hb => ⟨(hb.cell (World.block_lt_of_cell? _ _ y0)).trans y0, (hb.cell (World.block_lt_of_cell? _ _ y1)).trans y1⟩)
     have c3 := c3H.out w2.drew (hK2.out.trans (Kpt.of_below ((Below.refl _ w2).drew)))
     have c3sz : w2.drew.heap.size = w2.heap.size := rfl
     go_upto_region 2 with fail
     go_region_held3 (fun w' => w'.cell? ⟨g, 0, none⟩ = some (.string S) ∧ w'.cell? ⟨g, 1, none⟩ = some (.int .i64 (i : Int))) (first | go_keep) (first | (go_at_call 70; refine c3.mono ?_; rintro e wq ⟨rfl, b3⟩; have z0 := hS2.out wq ((Below.refl w2.heap.size w2).drew.trans b3)))
     have bq : Below w2.heap.size w2 wq := (Below.refl w2.heap.size w2).drew.trans b3
     have hq := hR2.out.below bq
     have hRBq := (bq.block w.heap.size (by omega)).trans hRB2.out
     have hKq := hK2.out.trans (Kpt.of_below (F := fun k => k = g) bq)
     clear y0 y1 y2 y3 f1 f2 f3 z0 c3 b3 hS2 c3sz
     obtain ⟨y0, y1, y2, y3, f1, f2, f3⟩ := hq.cells
     obtain ⟨W3, hW3⟩ : ∃ W3, W3 = wq.setCell ⟨g, 1, none⟩ (.int .i64 ((i : Int) + (SZ : Int))) := ⟨_, rfl⟩
     have hR3 : RRf g s (i + SZ) false n W3 := by rw [hW3]; simpa using hq.set1 (i + SZ)
     have hK3 : Kpt (fun k => k = g) w W3 := by rw [hW3]; exact hKq.trans (Kpt.of_set (F := fun k => k = g) wq (p := ⟨g, 1, none⟩) rfl _)
     have hRB3 : W3.heap[w.heap.size]? = some (.cells #[.int .i64 0, .bool false, .slice none 0 0, .string ⟨#[]⟩, .int .i64 0, .slice none 0 0, .slice none 0 0] 27 (0, 0)) := by
       rw [hW3]; exact ((only_set wq g 1 _).2.2 w.heap.size (by omega)).trans hRBq
     have c4 := rAtom_w XB W3
     rw [hW3] at c4
     have hW3H := hid hW3
     clear hq bq hRBq hKq hW3
     go_wp2_with fail
     refine c4.mono ?_
     rw [← hW3H.out]
     rintro e w4 ⟨rfl, b4⟩
     have hRW := hid (hR3.below b4)
     have hKW := hid (hK3.trans (Kpt.of_below b4))
     have hRB := (b4.block _ (zge.1 hRB3).1).trans hRB3
     clear c4 hR3 hK3 hRB3 b4 y0 y1 y2 y3 f1 f2 f3 hW3H
     obtain ⟨e0, e1, e2, e3, e4, e5, e6⟩ := cell7 hRB
     have efr : ∀ j, w4.frozen? ⟨w.heap.size, j, none⟩ = false := (res7 hRB).fr
     have hp7 := heap_put7 hRB (.int .i64 1) (.bool false) nilS (.string XB) (.int .i64 0) nilS nilS
     have hon := only_put w4 w.heap.size (.int .i64 1) (.bool false) nilS (.string XB) (.int .i64 0) nilS nilS
     obtain ⟨q0, q1, q2, q3, q4, q5, q6⟩ := cell7 hp7
     have hFin := hid (rdo_fin (w := w) (T := atomT XB) (tv_flatZ 1 XB 0) (Nat.le_refl _) hRW.out hKW.out hgw hon)
     clear hp7 hon
     go_wp2
     exact bodyPost_ret (v := tmV 1 false nilS XB 0 nilS nilS) (by simp [results, Tryz.results37, go_sem, q0, q1, q2, q3, q4, q5, q6]) rfl ⟨_, atomT XB, i + SZ, false, rfl, hFin.out, hni.out, fun _ => (by rw [hgood.out, hXH.out, hdr.out]), fun h => (by cases h)⟩
   · have hcmp : (Q.toList == A.toList) = false := tl_ne (fun e => hAQ e.symm)
     have hAQH := hid hAQ
     clear hAQ
     have hbad := hid (hA2H.out (.inr (fun e => hAQH.out (hinH.out.1 e))))
     clear hA2H hA3H hinH hXH hdr
     obtain ⟨y0, y1, y2, y3, f1, f2, f3⟩ := hR2.out.cells
     rw [hSH.out] at y0
     have hS2 : Hid (∀ w', Below w2.heap.size w2 w' → w'.cell? ⟨g, 0, none⟩ = some (.string S) ∧ w'.cell? ⟨g, 1, none⟩ = some (.int .i64 (i : Int))) := hid (fun w' hb => ⟨(hb.cell (World.block_lt_of_cell? _ _ y0)).trans y0, (hb.cell (World.block_lt_of_cell? _ _ y1)).trans y1⟩)
     have c3 := c3H.out w2.drew (hK2.out.trans (Kpt.of_below ((Below.refl _ w2).drew)))
     have c3sz : w2.drew.heap.size = w2.heap.size := rfl
     go_upto_region 2 with fail
     go_region_held3 (fun w' => w'.cell? ⟨g, 0, none⟩ = some (.string S) ∧ w'.cell? ⟨g, 1, none⟩ = some (.int .i64 (i : Int))) (first | go_keep) (first | (go_at_call 70; refine c3.mono ?_; rintro e wq ⟨rfl, b3⟩; have z0 := hS2.out wq ((Below.refl w2.heap.size w2).drew.trans b3)))
     have bq : Below w2.heap.size w2 wq := (Below.refl w2.heap.size w2).drew.trans b3
     have hq := hR2.out.below bq
     have hRBq := (bq.block w.heap.size (by omega)).trans hRB2.out
     have hKq := hK2.out.trans (Kpt.of_below (F := fun k => k = g) bq)
     clear y0 y1 y2 y3 f1 f2 f3 z0 c3 b3 hS2 c3sz
     obtain ⟨y0, y1, y2, y3, f1, f2, f3⟩ := hq.cells
     obtain ⟨W3, hW3⟩ : ∃ W3, W3 = wq.setCell ⟨g, 2, none⟩ (.bool true) := ⟨_, rfl⟩
     have hR3 : RRf g s i true n W3 := by rw [hW3]; exact hq.set2 true
     have hK3 : Kpt (fun k => k = g) w W3 := by rw [hW3]; exact hKq.trans (Kpt.of_set (F := fun k => k = g) wq (p := ⟨g, 2, none⟩) rfl _)
     have hRB3 : W3.heap[w.heap.size]? = some (.cells #[.int .i64 0, .bool false, .slice none 0 0, .string ⟨#[]⟩, .int .i64 0, .slice none 0 0, .slice none 0 0] 27 (0, 0)) := by
       rw [hW3]; exact ((only_set wq g 2 (.bool true)).2.2 w.heap.size (by omega)).trans hRBq
     have c4 := rNil_w W3
     rw [hW3] at c4
     have hW3H := hid hW3
     clear hq bq hRBq hKq hW3
     go_wp2_with fail
     refine c4.mono ?_
     rw [← hW3H.out]
     rintro e w4 ⟨rfl, b4⟩
     have hRW := hid (hR3.below b4)
     have hKW := hid (hK3.trans (Kpt.of_below b4))
     have hRB := (b4.block _ (zge.1 hRB3).1).trans hRB3
     clear c4 hR3 hK3 hRB3 b4 y0 y1 y2 y3 f1 f2 f3 hW3H
     obtain ⟨e0, e1, e2, e3, e4, e5, e6⟩ := cell7 hRB
     have efr : ∀ j, w4.frozen? ⟨w.heap.size, j, none⟩ = false := (res7 hRB).fr
     have hp7 := heap_put7 hRB (.int .i64 5) (.bool false) nilS (.string noS) (.int .i64 0) nilS nilS
     have hon := only_put w4 w.heap.size (.int .i64 5) (.bool false) nilS (.string noS) (.int .i64 0) nilS nilS
     obtain ⟨q0, q1, q2, q3, q4, q5, q6⟩ := cell7 hp7
     have hFin := hid (rdo_fin (w := w) (T := nilT) (tv_flatZ 5 noS 0) (Nat.le_refl _) hRW.out hKW.out hgw hon)
     clear hp7 hon
     go_wp2
     exact bodyPost_ret (v := tmV 5 false nilS noS 0 nilS nilS) (by simp [results, Tryz.results37, go_sem, q0, q1, q2, q3, q4, q5, q6]) rfl ⟨_, _, i, true, rfl, hFin.out, hi, fun h => (by cases h), fun _ => hbad.out⟩
 · have hne : ((E : Int) != 0) = true := by simp [hE]
   have hbad := hid (hA2H.out (.inl hE))
   clear hE hA2H hA3H c3H hinH hXH hdr
   obtain ⟨y0, y1, y2, y3, f1, f2, f3⟩ := hR2.out.cells
   rw [hSH.out] at y0
   go_upto_region 2 with fail
   go_quiet (fail)
   generalize hWq : World.drewN w2 _ = wq
   have bq : Below w2.heap.size w2 wq := by rw [← hWq]; exact below_drewNv (Below.refl _ _) _
   have hq := hR2.out.below bq
   have hRBq := (bq.block w.heap.size (by omega)).trans hRB2.out
   have hKq := hK2.out.trans (Kpt.of_below (F := fun k => k = g) bq)
   clear hWq y0 y1 y2 y3 f1 f2 f3
   obtain ⟨y0, y1, y2, y3, f1, f2, f3⟩ := hq.cells
   obtain ⟨W3, hW3⟩ : ∃ W3, W3 = wq.setCell ⟨g, 2, none⟩ (.bool true) := ⟨_, rfl⟩
   have hR3 : RRf g s i true n W3 := by rw [hW3]; exact hq.set2 true
   have hK3 : Kpt (fun k => k = g) w W3 := by rw [hW3]; exact hKq.trans (Kpt.of_set (F := fun k => k = g) wq (p := ⟨g, 2, none⟩) rfl _)
   have hRB3 : W3.heap[w.heap.size]? = some (.cells #[.int .i64 0, .bool false, .slice none 0 0, .string ⟨#[]⟩, .int .i64 0, .slice none 0 0, .slice none 0 0] 27 (0, 0)) := by
     rw [hW3]; exact ((only_set wq g 2 (.bool true)).2.2 w.heap.size (by omega)).trans hRBq
   have c4 := rNil_w W3
   rw [hW3] at c4
   have hW3H := hid hW3
   clear hq bq hRBq hKq hW3
   go_wp2_with fail
   refine c4.mono ?_
   rw [← hW3H.out]
   rintro e w4 ⟨rfl, b4⟩
   have hRW := hid (hR3.below b4)
   have hKW := hid (hK3.trans (Kpt.of_below b4))
   have hRB := (b4.block _ (zge.1 hRB3).1).trans hRB3
   clear c4 hR3 hK3 hRB3 b4 y0 y1 y2 y3 f1 f2 f3 hW3H
   obtain ⟨e0, e1, e2, e3, e4, e5, e6⟩ := cell7 hRB
   have efr : ∀ j, w4.frozen? ⟨w.heap.size, j, none⟩ = false := (res7 hRB).fr
   have hp7 := heap_put7 hRB (.int .i64 5) (.bool false) nilS (.string noS) (.int .i64 0) nilS nilS
   have hon := only_put w4 w.heap.size (.int .i64 5) (.bool false) nilS (.string noS) (.int .i64 0) nilS nilS
   obtain ⟨q0, q1, q2, q3, q4, q5, q6⟩ := cell7 hp7
   have hFin := hid (rdo_fin (w := w) (T := nilT) (tv_flatZ 5 noS 0) (Nat.le_refl _) hRW.out hKW.out hgw hon)
   clear hp7 hon
   go_wp2
   exact bodyPost_ret (v := tmV 5 false nilS noS 0 nilS nilS) (by simp [results, Tryz.results37, go_sem, q0, q1, q2, q3, q4, q5, q6]) rfl ⟨_, _, i, true, rfl, hFin.out, hi, fun h => (by cases h), fun _ => hbad.out⟩
structure TermQ (g : Nat) (s : List UInt8) (i n : Nat) (w : World) (e : Ending) (w' : World) : Prop where
 q : ∃ v T i' b n', e = .returned v ∧ RdO g s i' b n' T v w w' ∧ i' ≤ s.length ∧ (b = false → (readL (s.drop i)).1 = some T ∧ (readL (s.drop i)).2 = s.drop i' ∧ n' ≤ i' ∧ i < i') ∧ (b = true → badO (readL (s.drop i)).1)
def TermC (g : Nat) (s : List UInt8) (i : Nat) : Prop := ∀ (n : Nat) (w : World), RRf g s i false n w → n ≤ i → (∀ w', Kpt (fun k => k = g) w w' → TabX w') →
   Calls Tryz.prog 17 #[.pointer (some ⟨g, 0, none⟩)] w (TermQ g s i n w)
structure ItemsQ (g : Nat) (s : List UInt8) (i n : Nat) (c : UInt8) (w : World) (e : Ending) (w' : World) : Prop where
 q : ∃ o l cp i' b n', e = .returned (.slice o l.length cp) ∧ ItR w.heap.size (.slice o l.length cp) l w' ∧ RRf g s i' b n' w' ∧ i' ≤ s.length ∧ Kpt (fun k => k = g) w w' ∧ l.length ≤ s.length + 1 ∧ l ≠ [] ∧
   (b = false → ∃ l0 T, l = l0 ++ [T] ∧ skB 44 (s.drop i') = false ∧ rowL ⟨c, [], false⟩ (s.drop i) = aftL ⟨c, l0, false⟩ T (s.drop i') ∧ n' ≤ i' ∧ Lib.validD (s.drop i') = true ∧ i < i') ∧ (b = true → badO (rowL ⟨c, [], false⟩ (s.drop i)).1)
def rrMb (g : Nat) (w : World) : Nat :=
 match w.cell? ⟨g, 2, none⟩ with
 | some (Value.bool false) => rrM g w + 1
 | _ => 0
theorem RRf.mesb {g : Nat} {s : List UInt8} {i : Nat} {b : Bool} {n : Nat} {w : World} (h : RRf g s i b n w) : rrMb g w = if b then 0 else s.length - i + 1 := by
 obtain ⟨y0, y1, y2, _⟩ := h.cells
 unfold rrMb
 rw [y2, h.mes]
 cases b <;> rfl
theorem isA (g : Nat) (s : List UInt8) (i : Nat) (b : Bool) (n : Nat) (c : UInt8) (hs : s.length ≤ 65536) (hi : i ≤ s.length) (w : World) (h : RRf g s i b n w) :
   Calls Tryz.prog 32 #[.pointer (some ⟨g, 0, none⟩), .string (bs [c])] w fun e w' => e = .returned (.bool (!b && skB c (s.drop i))) ∧ RRf g s (if (!b && skB c (s.drop i)) = true then i + 1 else i) b n w' ∧ Kpt (fun k => k = g) w w' := by
 cases b with
 | true => exact (is_bad g s i n [c] w h).mono (fun e w' h => by simpa using h)
 | false =>
   have h2 := is_w g s i n [c] hs hi w h
   rw [pre_one] at h2
   exact h2.mono (fun e w' h => by simpa using h)
set_option maxHeartbeats 4000000 in
theorem items_w (g : Nat) (s : List UInt8) (i n : Nat) (c : UInt8) (hc : c = 93 ∨ c = 125) (hs : s.length ≤ 3000) (hi : i ≤ s.length) (hv : Lib.validD (s.drop i) = true)
   (ht : ∀ i', i ≤ i' → i' ≤ s.length → Lib.validD (s.drop i') = true → TermC g s i') (w : World) (h : RRf g s i false n w) (hn : n ≤ i) (hTb : ∀ w', Kpt (fun k => k = g) w w' → TabX w') :
   Calls Tryz.prog 35 #[.pointer (some ⟨g, 0, none⟩)] w (ItemsQ g s i n c w) := by
 have hgw := h.lt
 have c1 := ht i (Nat.le_refl _) hi hv n w h hn hTb
 have htH := hid ht
 have hTH := hid hTb
 have hvH := hid hv
 have hcH := hid hc
 obtain ⟨iT, hT1, hT2, hT3, hT4⟩ := info_parts infoT
 clear h ht hTb hv hc
 go_enter Tryz.func35, Tryz.ntmps35
 go_wp2_with fail
 refine c1.mono ?_
 rintro e w1 ⟨⟨v, T, i1, b1, n1, rfl, hO, hi1, hg1, hb1⟩⟩
 obtain ⟨xk, xneg, xod, xld, xcd, xnm, xn, xol, xll, xcl, xob, xlb, xcb, rfl⟩ := hO.tv.form
 obtain ⟨W2, hW2⟩ : ∃ W2, W2 = w1.alloc (.cells #[.int .i64 xk, .bool xneg, .slice xod xld xcd, .string xnm, .int .i64 xn, .slice xol xll xcl, .slice xob xlb xcb] 27) := ⟨_, rfl⟩
 have b2 : Below w1.heap.size w1 W2 := by rw [hW2]; exact (Below.refl _ _).alloc (Nat.le_refl _) _
 have hI1 : ItR w.heap.size (.slice (some ⟨w1.heap.size, 0, none⟩) 1 1) [T] W2 := ItR.one hO.tv hO.kp.size hW2
 have hR1 := hid (hO.rd.below b2)
 have hK1 := hid (hO.kp.trans (Kpt.of_below b2))
 have hI1H := hid hI1
 have hW2H := hid hW2
 have hst : Hid ((b1 = false → ∃ l0 T', ([T] : List Tm) = l0 ++ [T'] ∧ rowL ⟨c, [], false⟩ (s.drop i) = aftL ⟨c, l0, false⟩ T' (s.drop i1) ∧ n1 ≤ i1 ∧ Lib.validD (s.drop i1) = true ∧ i < i1) ∧ (b1 = true → badO (rowL ⟨c, [], false⟩ (s.drop i)).1)) := hid ⟨fun h0 => by
     obtain ⟨p1, p2, p3, p4⟩ := hg1 h0
     refine ⟨[], T, rfl, ?_, p3, ?_, p4⟩
     · rw [row_aft p1, p2]
     · rw [← p2]; exact read_vd hvH.out, fun h0 => row_badO (hb1 h0)⟩
 have hg1H : Hid (b1 = false → i < i1) := hid (fun h0 => (hg1 h0).2.2.2)
 clear c1 hg1 hb1 hO hI1 b2 hW2
 go_wp2_with fail
 rw [← hW2H.out]
 go_loopw [3] (fun v wr => ∃ (o : Option Addr) (l : List Tm) (cp k : Nat) (b : Bool) (m : Nat), v = .slice o l.length cp ∧ Hid (ItR w.heap.size (.slice o l.length cp) l wr) ∧ Hid (RRf g s k b m wr) ∧ Hid (Kpt (fun k => k = g) w wr) ∧ k ≤ s.length ∧ l.length ≤ s.length + 1 ∧ (b = false → l.length ≤ k) ∧ l ≠ [] ∧ Hid ((b = false → ∃ l0 T', l = l0 ++ [T'] ∧ rowL ⟨c, [], false⟩ (s.drop i) = aftL ⟨c, l0, false⟩ T' (s.drop k) ∧ m ≤ k ∧ Lib.validD (s.drop k) = true ∧ i < k) ∧ (b = true → badO (rowL ⟨c, [], false⟩ (s.drop i)).1))) (fun _ wr => rrMb g wr)
 case atStart => exact ⟨_, [T], 1, i1, b1, n1, rfl, hI1H, hR1, hK1, hi1, by simp, fun h0 => (by have := (hg1H.out h0); simp; omega), by simp, hst⟩
 case round =>
   obtain ⟨o, l, cp, k, b, m, rfl, hI, hR, hK, hk, hlk, hlg, hl0, hst⟩ := hrel
   have c2 := isA g s k b m 44 (by omega) hk wr hR.out
   rw [show bs [44] = ⟨#[44]⟩ from rfl] at c2
   obtain ⟨B, hB⟩ : ∃ B, (!b && skB 44 (s.drop k)) = B := ⟨_, rfl⟩
   rw [hB] at c2
   go_wp2_with fail
   refine c2.mono ?_
   rintro e w2 ⟨rfl, hR2, hK2⟩
   have hI2 := hI.out.kpt hK2 hgw
   have hKK := hid (hK.out.trans hK2)
   cases B with
   | false =>
     have hRR : Hid (RRf g s k b m w2) := hid (by simpa using hR2)
     have hst2 : Hid ((b = false → ∃ l0 T, l = l0 ++ [T] ∧ skB 44 (s.drop k) = false ∧ rowL ⟨c, [], false⟩ (s.drop i) = aftL ⟨c, l0, false⟩ T (s.drop k) ∧ m ≤ k ∧ Lib.validD (s.drop k) = true ∧ i < k) ∧ (b = true → badO (rowL ⟨c, [], false⟩ (s.drop i)).1)) := hid ⟨fun h0 => by
         obtain ⟨l0, T', e1, e2, e3, e4, e5⟩ := hst.out.1 h0
         rw [h0] at hB
         exact ⟨l0, T', e1, by simpa using hB, e2, e3, e4, e5⟩, hst.out.2⟩
     have hII := hid hI2
     clear hst hR2 hK2 hI2 hB c2 hR hK hI
     go_wp2_with fail
     go_ret
     exact ⟨⟨o, l, cp, k, b, m, rfl, hII.out, hRR.out, hk, hKK.out, hlk, hl0, hst2.out.1, hst2.out.2⟩⟩
   | true =>
     have hb0 : b = false := by cases b with | false => rfl | true => simp at hB
     subst hb0
     have hlkH := hid (hlg rfl)
     clear hlg
     have hcm : skB 44 (s.drop k) = true := by simpa using hB
     obtain ⟨d1, d2⟩ := drop_skR hcm
     obtain ⟨l0, T', e1, e2, e3, e4, e5⟩ := hst.out.1 rfl
     have hv2 : Lib.validD (s.drop (k + 1)) = true := by rw [d1]; exact vd_skR (by decide) e4
     have hRR : RRf g s (k + 1) false m w2 := by simpa using hR2
     have c3 := htH.out (k + 1) (by omega) (by omega) hv2 m w2 hRR (by omega) (fun w' hw' => hTH.out w' (hKK.out.trans hw'))
     have hrow : Hid (rowL ⟨c, [], false⟩ (s.drop i) = rowL ⟨c, l, false⟩ (s.drop (k + 1))) := hid (by rw [e2, aft_comma hcH.out hcm, ← e1, d1])
     have hvv := hid hv2
     clear hst hR2 hK2 hB c2 hcm d1 e1 e2 e3 e4 l0 T' hv2
     go_wp2_with fail
     refine c3.mono ?_
     rintro e w5 ⟨⟨v, T, i5, b5, n5, rfl, hO, hi5, hg5, hb5⟩⟩
     obtain ⟨xk, xneg, xod, xld, xcd, xnm, xn, xol, xll, xcl, xob, xlb, xcb, rfl⟩ := hO.tv.form
     obtain ⟨xs, hOw, hRC⟩ := hI2
     have b6 : Below w5.heap.size w5 (w5.alloc (.cells #[.int .i64 xk, .bool xneg, .slice xod xld xcd, .string xnm, .int .i64 xn, .slice xol xll xcl, .slice xob xlb xcb] 27)) := (Below.refl _ _).alloc (Nat.le_refl _) _
     have hcr := heap_alloc_new w5 (.cells #[.int .i64 xk, .bool xneg, .slice xod xld xcd, .string xnm, .int .i64 xn, .slice xol xll xcl, .slice xob xlb xcb] 27)
     have hs6 : (w5.alloc (.cells #[.int .i64 xk, .bool xneg, .slice xod xld xcd, .string xnm, .int .i64 xn, .slice xol xll xcl, .slice xob xlb xcb] 27)).heap.size = w5.heap.size + 1 := by simp
     have hH2 : w.heap.size ≤ w2.heap.size := hKK.out.size
     have hblk := own_blk7 hOw
     have hO6 : (w5.alloc (.cells #[.int .i64 xk, .bool xneg, .slice xod xld xcd, .string xnm, .int .i64 xn, .slice xol xll xcl, .slice xob xlb xcb] 27)).ownsRow w.heap.size 27 7 (.slice o l.length cp) l.length xs := own_blkS hOw (fun j hj => (b6.block j (Nat.lt_of_lt_of_le (hblk j hj).2 hO.kp.size)).trans (hO.kp.block j (hblk j hj).2 (fun e => by have := (hblk j hj).1; omega)))
     have hss := hO.kp.size
     go_wp2_with (at_builtin; refine wpList_append_lies _ rfl _ _ 24 rfl w.heap.size 27 iT _ 7 112 Tryz.underlying24 hT1 hT2 hT3 hT4 rfl (by decide) _ _ _ rfl hO6 ⟨w5.heap.size, 0, none⟩ 1 1 [.int .i64 xk, .bool xneg, .slice xod xld xcd, .string xnm, .int .i64 xn, .slice xol xll xcl, .slice xob xlb xcb] rfl ?c1 ?c2 ?c3 ?c4 ?c5 ?c6 ?c7 _ rfl ?_)
     case c1 => rfl
     case c2 => exact World.news_of_block hcr
     case c3 =>
       intro u hu
       simp only [List.mem_cons, List.not_mem_nil, or_false] at hu
       rcases hu with rfl | rfl | rfl | rfl | rfl | rfl | rfl <;> rfl
     case c4 => decide
     case c5 => unfold maxLen; omega
     case c6 => omega
     case c7 => omega
     intro g2 cap2 w7 hown hgrow hg2 hlt
     rw [← hs6] at hg2
     have hb7 := hgrow.size
     have hI7 := hid (ItR.snoc hOw hRC hgw hH2 hO.kp hO.tv b6 hgrow hg2 hown)
     have hgr7 : w7.heap[g]? = w5.heap[g]? := (hgrow.block g (by omega) (fun e => by have := (hblk g e.symm).1; omega)).trans (b6.block g (by have := hO.kp.size; omega))
     have hR7 : Hid (RRf g s i5 b5 n5 w7) := hid ⟨hgr7.trans hO.rd.at_⟩
     have kB : Kpt (fun k => k = g) w _ := hKK.out.trans (hO.kp.trans (Kpt.of_below b6))
     have hK7 : Hid (Kpt (fun k => k = g) w w7) := hid ⟨hgrow.os.trans kB.os, hgrow.tape.trans kB.tape, hgrow.output.trans kB.output, Nat.le_trans kB.size hgrow.size, fun j hj hn => (hgrow.block j (by have := kB.size; omega) (fun e => by have := (hblk j e.symm).1; omega)).trans (kB.block j hj hn)⟩
     have hst7 : Hid ((b5 = false → ∃ l0 T', l ++ [T] = l0 ++ [T'] ∧ rowL ⟨c, [], false⟩ (s.drop i) = aftL ⟨c, l0, false⟩ T' (s.drop i5) ∧ n5 ≤ i5 ∧ Lib.validD (s.drop i5) = true ∧ i < i5) ∧ (b5 = true → badO (rowL ⟨c, [], false⟩ (s.drop i)).1)) := hid ⟨fun h0 => by
         obtain ⟨p1, p2, p3, p4⟩ := hg5 h0
         refine ⟨l, T, rfl, ?_, p3, ?_, by omega⟩
         · rw [hrow.out, row_aft p1, p2]
         · rw [← p2]; exact read_vd hvv.out, fun h0 => by rw [hrow.out]; exact row_badO (hb5 h0)⟩
     have hm7 := hid (show rrMb g w7 < rrMb g wr by
       rw [hR7.out.mesb, hR.out.mesb]
       cases hb : b5 with
       | true => simp
       | false =>
         have := (hg5 hb).2.2.2
         simp only [Bool.false_eq_true, if_false]
         omega)
     have hlk2 := hlkH.out
     have hll : Hid ((l ++ [T]).length ≤ s.length + 1 ∧ (b5 = false → (l ++ [T]).length ≤ i5)) := hid (by
       simp only [List.length_append, List.length_cons, List.length_nil]
       exact ⟨by omega, fun h0 => by have := (hg5 h0).2.2.2; omega⟩)
     clear hR hK hI hO hOw hRC hO6 hcr b6 hgr7 kB hgrow hown hg5 hb5 c3
     go_wp2_with fail
     go_roundw
     case rel => exact ⟨some ⟨g2, 0, none⟩, l ++ [T], cap2, i5, b5, n5, by simp, hI7, hR7, hK7, hi5, hll.out.1, hll.out.2, by simp, hst7⟩
     case measure => exact hm7.out
structure BinQ (g : Nat) (s : List UInt8) (i n : Nat) (w : World) (e : Ending) (w' : World) : Prop where
 q : ∃ v T i' b, e = .returned v ∧ RdO g s i' b n T v w w' ∧ i' ≤ s.length ∧ (b = false → binL (s.drop i) = (some T, s.drop i') ∧ i ≤ i') ∧ (b = true → (binL (s.drop i)).1 = none)
abbrev bx7 (o : Option Addr) (n c : Nat) : Array Value := #[.int .i64 7, .bool false, .slice none 0 0, .string ⟨#[]⟩, .int .i64 0, .slice none 0 0, .slice o n c]
abbrev zr7 : Array Value := #[.int .i64 0, .bool false, .slice none 0 0, .string ⟨#[]⟩, .int .i64 0, .slice none 0 0, .slice none 0 0]
structure BinS (g : Nat) (s : List UInt8) (n : Nat) (w : World) (k : Nat) (b : Bool) (acc : List Nat) (o : Option Addr) (c : Nat) (wr : World) : Prop where
 rd : RRf g s k b n wr
 kp : Kpt (fun j => j = g) w wr
 rb : wr.heap[w.heap.size]? = some (.cells zr7 27 (0, 0))
 bt : wr.heap[w.heap.size + 1]? = some (.cells (bx7 o acc.length c) 27 (0, 0))
 own : wr.ownsRow (w.heap.size + 2) 5 1 (.slice o acc.length c) acc.length (bts acc)
 lm : Lm 256 acc
theorem BinS.next {g : Nat} {s : List UInt8} {n : Nat} {w : World} {k k' : Nat} {b' : Bool} {acc : List Nat} {o o' : Option Addr} {c c' m : Nat} {wr w3 w4 w5 : World} (h : BinS g s n w k false acc o c wr) (hg : g < w.heap.size)
   (hR : RRf g s k' b' n w3) (hK : Kpt (fun j => j = g) wr w3) (hm : m < 256) (hgr : (w3.alloc (.cells #[.int .u8 (m : Int)] 5)).grownBy w4 (Value.ownBlock (.slice o acc.length c)))
   (hown : w4.ownsRow (w.heap.size + 2) 5 1 (.slice o' (acc.length + 1) c') (acc.length + 1) (bts acc ++ [.int .u8 (m : Int)])) (e5 : w5 = w4.setCell ⟨w.heap.size + 1, 6, none⟩ (.slice o' (acc.length + 1) c')) :
   BinS g s n w k' b' (acc ++ [m]) o' c' w5 := by
 have hb := World.ownsRow.lt h.own
 have hsz := hK.size
 have hgl := h.rd.lt
 have hw := h.kp.size
 have hrb := (zge.1 h.rb).1
 have hbt := (zge.1 h.bt).1
 have ho := only_set w4 (w.heap.size + 1) 6 (.slice o' (acc.length + 1) c')
 rw [← e5] at ho
 have hA : ∀ j, j < w3.heap.size → (w3.alloc (.cells #[.int .u8 (m : Int)] 5)).heap[j]? = w3.heap[j]? := fun j hj => ((Below.refl w3.heap.size w3).alloc (Nat.le_refl _) _).block j hj
 have hAs : (w3.alloc (.cells #[.int .u8 (m : Int)] 5)).heap.size = w3.heap.size + 1 := by simp
 have key : ∀ j, j < wr.heap.size → j < w.heap.size + 2 → j ≠ w.heap.size + 1 → w5.heap[j]? = w3.heap[j]? := fun j hj h2 h3 => by
   rw [ho.2.2 j h3, hgr.block j (by omega) (fun e => by have := (hb j e.symm).1; omega), hA j (by omega)]
 have hbt4 : w4.heap[w.heap.size + 1]? = some (.cells (bx7 o acc.length c) 27 (0, 0)) := by
   rw [hgr.block _ (by omega) (fun e => by have := (hb _ e.symm).1; omega), hA _ (by omega), hK.block _ hbt (by omega)]
   exact h.bt
 have e1 : (acc ++ [m]).length = acc.length + 1 := by simp
 refine ⟨⟨(key g hgl (by omega) (by omega)).trans hR.at_⟩, ?_, ?_, ?_, ?_, lm_snoc h.lm hm⟩
 · refine ⟨by rw [ho.1.os, hgr.os]; exact hK.os.trans h.kp.os, by rw [ho.1.tape, hgr.tape]; exact hK.tape.trans h.kp.tape, by rw [ho.1.output, hgr.output]; exact hK.output.trans h.kp.output, by rw [ho.2.1]; have := hgr.size; omega, fun j hj hn => ?_⟩
   rw [key j (by omega) (by omega) (by omega), hK.block j (by omega) hn, h.kp.block j hj hn]
 · rw [key _ hrb (by omega) (by omega), hK.block _ hrb (by omega)]; exact h.rb
 · rw [e5, e1]; exact heap_setc hbt4 _
 · rw [e1, bts_snoc]
   exact own_blkS hown (fun j hj => ho.2.2 j (fun e => by have := (World.ownsRow.lt hown j hj).1; omega))
theorem bin_ap (w3 : World) (B : Nat) (o : Option Addr) (acc : List Nat) (c m : Nat) (hown : w3.ownsRow B 5 1 (.slice o acc.length c) acc.length (bts acc)) (hB : B ≤ w3.heap.size) (hl : acc.length ≤ 5000) :
   ∃ o4 c4 w4, (Builtin.append_ #[25, 25] 25 #[.slice o acc.length c, .slice (some ⟨w3.heap.size, 0, none⟩) 1 1]).run Tryz.prog (w3.alloc (.cells #[.int .u8 (m : Int)] 5)) = .ok (.slice o4 (acc.length + 1) c4) w4 ∧ w4.ownsRow B 5 1 (.slice o4 (acc.length + 1) c4) (acc.length + 1) (bts acc ++ [.int .u8 (m : Int)]) ∧ (w3.alloc (.cells #[.int .u8 (m : Int)] 5)).grownBy w4 (Value.ownBlock (.slice o acc.length c)) := by
 obtain ⟨i0, hi, hz0, hz1, hz2⟩ := info_parts infoB8
 have hR1 := World.ownsRow.alloc hown (.cells #[.int .u8 (m : Int)] 5)
 obtain ⟨v', w4, hrn, hown4, hg4, _⟩ := run_append_own (P := Tryz.prog) (w3.alloc (.cells #[.int .u8 (m : Int)] 5)) B 25 25 5 i0 (.int .u8 0) 1 1 Tryz.underlying25 hi hz0 hz1 hz2 rfl (by decide) (.slice o acc.length c) acc.length (bts acc) hR1 ⟨w3.heap.size, 0, none⟩ 1 1 [.int .u8 (m : Int)] rfl (cell_one_new _ _ _) (by intro u hu; simp at hu; subst hu; rfl) (by unfold maxLen; omega) (by omega) (by simp; omega)
 obtain ⟨o4, c4, rfl⟩ := own_form hown4
 exact ⟨o4, c4, w4, hrn, hown4, hg4⟩
theorem BinS.ap {g : Nat} {s : List UInt8} {n : Nat} {w : World} {k k' : Nat} {b' : Bool} {acc : List Nat} {o : Option Addr} {c m : Nat} {wr w3 : World} (h : BinS g s n w k false acc o c wr) (hg : g < w.heap.size) (hR : RRf g s k' b' n w3) (hK : Kpt (fun j => j = g) wr w3) (hm : m < 256) (hl : acc.length ≤ 5000) :
   ∃ o4 c4 w4, (Builtin.append_ #[25, 25] 25 #[.slice o acc.length c, .slice (some ⟨w3.heap.size, 0, none⟩) 1 1]).run Tryz.prog (w3.alloc (.cells #[.int .u8 (m : Int)] 5)) = .ok (.slice o4 (acc.length + 1) c4) w4 ∧ w3.cell? ⟨w.heap.size + 1, 6, none⟩ = some (.slice o acc.length c) ∧ (w3.alloc (.cells #[.int .u8 (m : Int)] 5)).cell? ⟨w.heap.size + 1, 6, none⟩ = some (.slice o acc.length c) ∧ w4.cell? ⟨w.heap.size + 1, 6, none⟩ = some (.slice o acc.length c) ∧ w4.frozen? ⟨w.heap.size + 1, 6, none⟩ = false ∧ BinS g s n w k' b' (acc ++ [m]) o4 c4 (w4.setCell ⟨w.heap.size + 1, 6, none⟩ (.slice o4 (acc.length + 1) c4)) := by
 have hb := World.ownsRow.lt h.own
 have hsz := hK.size
 have hbt := (zge.1 h.bt).1
 have own3 : w3.ownsRow (w.heap.size + 2) 5 1 (.slice o acc.length c) acc.length (bts acc) := hK.own h.own (fun j hj e => by omega)
 obtain ⟨o4, c4, w4, hrn, hown4, hg4⟩ := bin_ap w3 (w.heap.size + 2) o acc c m own3 (by omega) hl
 have hbt4 : w4.heap[w.heap.size + 1]? = some (.cells (bx7 o acc.length c) 27 (0, 0)) := by
   rw [hg4.block _ (by simp; omega) (fun e => by have := (hb _ e.symm).1; omega), ((Below.refl w3.heap.size w3).alloc (Nat.le_refl _) _).block _ (by omega), hK.block _ hbt (by omega)]
   exact h.bt
 obtain ⟨x0, x1, x2, x3, x4, x5, x6⟩ := cell7 hbt4
 have c36 := (cell7 ((hK.block _ hbt (by omega)).trans h.bt)).2.2.2.2.2.2
 exact ⟨o4, c4, w4, hrn, c36, (((Below.refl w3.heap.size w3).alloc (Nat.le_refl _) _).cell (World.block_lt_of_cell? _ _ c36)).trans c36, x6, (res7 hbt4).fr 6, h.next hg hR hK hm hg4 hown4 rfl⟩
theorem own_lsZ {w : World} {B S : Nat} {o : Option Addr} {n c : Nat} {b : List Nat} (h : w.ownsRow B 5 1 (.slice o n c) n (bts b)) (hL : Lm 256 b) (hS : S ≤ B) : LsB (Zb S w) o b w := by
 refine ⟨?_, hL⟩
 obtain ⟨h1, ⟨h2, h3⟩ | ⟨g, cap, cur, h2, hB, hg, hn, _, _, ht⟩⟩ := h
 · have : bts b = [] := List.eq_nil_of_length_eq_zero (by rw [h1, h3])
   rw [this]; exact Ls.nil _ _ _
 · simp only [Value.slice.injEq, true_and] at h2
   obtain ⟨rfl, rfl⟩ := h2
   intro j u hj
   refine ⟨_, rfl, ⟨by show S ≤ g; omega, (zge.1 hg).1⟩, ?_⟩
   rw [addr_add, Nat.zero_add]
   have hj2 : j < n * 1 := by rw [← h1]; exact (List.getElem?_eq_some_iff.1 hj).1
   rw [← ht, List.getElem?_take, if_pos hj2, Array.getElem?_toList] at hj
   simp [World.cell?, hg, hj]
theorem tv_binZ {w : World} {B S : Nat} {o : Option Addr} {c : Nat} {b : List Nat} (h : w.ownsRow B 5 1 (.slice o b.length c) b.length (bts b)) (hL : Lm 256 b) (hS : S ≤ B) (hc : b.length ≤ c) : TV (Zb S w) w (binT b) (tmV 7 false nilS noS 0 nilS (.slice o b.length c)) := by
 unfold binT TV
 exact ⟨none, 0, none, 0, o, c, rfl, Ls.nil _ _ _, Nat.le_refl _, Lm.nil _, own_lsZ h hL hS, hc, Nat.le_refl _, by unfold TR; trivial⟩
theorem drop_tw (r : List UInt8) : r.drop (r.takeWhile digB).length = r.dropWhile digB := by
 have h : r.takeWhile digB ++ r.dropWhile digB = r := List.takeWhile_append_dropWhile
 rw [show r.drop (r.takeWhile digB).length = (r.takeWhile digB ++ r.dropWhile digB).drop (r.takeWhile digB).length by rw [h], List.drop_left]
theorem nm_nil (most : Int) : nmB most [] = false := by
 unfold nmB
 have : (pE [] == 0) = false := by rw [beq_eq_false_iff_ne]; exact pE_nil
 rw [this]; rfl
theorem nm_byte (l : List UInt8) (hl : pneg l = false) : ∃ m : Nat, nmN 255 l = (m : Int) ∧ m < 256 := by
 by_cases h : nmB 255 l = true
 · have := nm_range hl h
   exact ⟨(nmN 255 l).toNat, by omega, by omega⟩
 · exact ⟨0, by unfold nmN; rw [if_neg h]; rfl, by omega⟩
set_option maxHeartbeats 4000000 in
theorem rbin_w (g : Nat) (s : List UInt8) (i n : Nat) (hs : s.length ≤ 3000) (hi : i ≤ s.length) (w : World) (h : RRf g s i false n w) :
   Calls Tryz.prog 34 #[.pointer (some ⟨g, 0, none⟩)] w (BinQ g s i n w) := by
 have hgw := h.lt
 obtain ⟨W0, hW0⟩ : ∃ W0, W0 = (w.alloc (.cells zr7 27)).alloc (.cells (bx7 none 0 0) 27) := ⟨_, rfl⟩
 have bW0 : Below w.heap.size w W0 := by rw [hW0]; exact ((Below.refl _ w).alloc (Nat.le_refl _) _).alloc (by simp) _
 have h0 : BinS g s n w i false [] none 0 W0 := by
   have hrb := heap_alloc_new w (.cells zr7 27)
   have hbt := heap_alloc_new (w.alloc (.cells zr7 27)) (.cells (bx7 none 0 0) 27)
   have e1 : (w.alloc (.cells zr7 27)).heap.size = w.heap.size + 1 := by simp
   rw [e1] at hbt
   refine ⟨h.below bW0, Kpt.of_below bW0, ?_, by rw [hW0]; exact hbt, World.ownsRow_nil _ _ _ _, Lm.nil _⟩
   rw [hW0]
   exact (((Below.refl _ (w.alloc (.cells zr7 27))).alloc (Nat.le_refl _) _).block _ (by omega)).trans hrb
 have c1 := is_w g s i n [62, 62] (by omega) hi W0 h0.rd
 rw [show bs [62, 62] = ⟨#[62, 62]⟩ from rfl, pre_two] at c1
 have hW0H := hid hW0
 have h0H := hid h0
 obtain ⟨iB, hB1, hB2, hB3, hB4⟩ := info_parts infoB8
 obtain ⟨B, hB⟩ : ∃ B, (skB 62 (s.drop i) && skB 62 (skR 62 (s.drop i))) = B := ⟨_, rfl⟩
 rw [hB] at c1
 have hBH := hid hB
 clear h hW0 bW0 h0 hB
 go_enter Tryz.func34, Tryz.ntmps34
 go_wp2_with fail
 rw [← hW0H.out]
 refine c1.mono ?_
 rintro e w1 ⟨rfl, hR1, hK1⟩
 cases B with
 | true =>
   rw [Bool.and_eq_true] at hBH
   obtain ⟨hb1, hb2⟩ := hBH.out
   have hi2 : i + 2 ≤ s.length := by
     have h1 := drop_skR hb1
     rw [← h1.1] at hb2
     have := (drop_skR hb2).2
     omega
   have hR1' : RRf g s (i + 2) false n w1 := by simpa using hR1
   have hRW := hid hR1'
   have hKW := hid (h0H.out.kp.trans hK1)
   have hRB := (hK1.block _ (zge.1 h0H.out.rb).1 (by omega)).trans h0H.out.rb
   have hBT := (hK1.block _ (zge.1 h0H.out.bt).1 (by omega)).trans h0H.out.bt
   have hfin : Hid (binL (s.drop i) = (some (binT []), s.drop (i + 2))) := hid (by
     have h1 := drop_skR hb1
     have h2 := hb2
     rw [← h1.1] at h2
     have h3 := drop_skR h2
     unfold binL
     rw [bin_one, if_pos hb1, if_pos hb2, ← h1.1, ← h3.1])
   obtain ⟨x0, x1, x2, x3, x4, x5, x6⟩ := cell7 hBT
   obtain ⟨e0, e1, e2, e3, e4, e5, e6⟩ := cell7 hRB
   have efr : ∀ j, w1.frozen? ⟨w.heap.size, j, none⟩ = false := (res7 hRB).fr
   have hp7 := heap_put7 hRB (.int .i64 7) (.bool false) nilS (.string noS) (.int .i64 0) nilS nilS
   have hon := only_put w1 w.heap.size (.int .i64 7) (.bool false) nilS (.string noS) (.int .i64 0) nilS nilS
   obtain ⟨q0, q1, q2, q3, q4, q5, q6⟩ := cell7 hp7
   have hFin := hid (rdo_fin (w := w) (T := binT []) (tv_flatZ 7 noS 0) (Nat.le_refl _) hRW.out hKW.out hgw hon)
   have hi2H := hid hi2
   clear hp7 hon hBH hb1 hb2 hR1 hR1' hK1 c1 hi2
   go_wp2
   exact bodyPost_ret (v := tmV 7 false nilS noS 0 nilS nilS) (by simp [results, Tryz.results34, go_sem, q0, q1, q2, q3, q4, q5, q6]) rfl ⟨⟨_, binT [], i + 2, false, rfl, hFin.out, hi2H.out, fun _ => ⟨hfin.out, by omega⟩, fun h => (by cases h)⟩⟩
 | false =>
   have hR1' : RRf g s i false n w1 := by simpa using hR1
   have hS1 : BinS g s n w i false [] none 0 w1 := ⟨hR1', h0H.out.kp.trans hK1, (hK1.block _ (zge.1 h0H.out.rb).1 (by omega)).trans h0H.out.rb, (hK1.block _ (zge.1 h0H.out.bt).1 (by omega)).trans h0H.out.bt, World.ownsRow_nil _ _ _ _, Lm.nil _⟩
   have hS1d : BinS g s n w i false [] none 0 w1.drew := ⟨hS1.rd.below (Below.refl _ w1).drew, hS1.kp.trans (Kpt.of_below (Below.refl _ w1).drew), hS1.rb, hS1.bt, World.ownsRow_nil _ _ _ _, hS1.lm⟩
   have c2 := rnumber_w g s i n 255 (by omega) hi w1.drew hS1d.rd
   obtain ⟨D, hD⟩ : ∃ D, (s.drop i).takeWhile digB = D := ⟨_, rfl⟩
   have hDn : pneg D = false := by rw [← hD]; exact pneg_digs _
   rw [hD] at c2
   obtain ⟨m, hm, hm2⟩ := nm_byte D hDn
   obtain ⟨NB, hNB⟩ : ∃ NB, nmB 255 D = NB := ⟨_, rfl⟩
   rw [hm, hNB] at c2
   have hwm : IntKind.u8.wrap (m : Int) = (m : Int) := by rw [IntKind.wrap_u8]; omega
   have hmz : (m : Int) < 256 := by omega
   have hap := hid (fun w3 (hR : RRf g s (i + D.length) (!NB) n w3) (hK : Kpt (fun j => j = g) w1.drew w3) => hS1d.ap hgw hR hK hm2 (by simp))
   have hDH := hid hD
   have hmH := hid hm
   have hNBH := hid hNB
   clear hD hDn hm hNB
   obtain ⟨x0, x1, x2, x3, x4, x5, x6⟩ := cell7 hS1.bt
   have xf : ∀ j, w1.frozen? ⟨w.heap.size + 1, j, none⟩ = false := (res7 hS1.bt).fr
   go_upto_region 4 with fail
   go_cut [] from 8 to 15 (fun wx => ∃ o4 c4, BinS g s n w (i + D.length) (!NB) [m] o4 c4 wx)
   case first =>
     go_region_law (first | (refine step_append_run rfl (.tmp 9) (.tmp 13) 25 rfl (.slice none 0 0) (.slice (some ⟨w3.heap.size, 0, none⟩) 1 1) (.slice o4 1 c4) w4 (by simp [Act.eval, Act.put]) (by simp [Act.eval, Act.put]) hrn ?_) | (go_simp; go_at_call 33; refine c2.mono ?_; rintro e w3 ⟨rfl, hR3, hK3⟩; obtain ⟨o4, c4, w4, hrn, hc3, hc3a, hc4, hf4, hS5⟩ := hap.out w3 hR3 hK3; try go_simp))
     all_goals (try go_wp2_with fail)
     all_goals go_meet
     all_goals exact ⟨o4, c4, hS5⟩
   case rest =>
     obtain ⟨o4, c4, hS5⟩ := hcut
     obtain ⟨R, hRR⟩ : ∃ R, binL (s.drop i) = R := ⟨_, rfl⟩
     have hRH := hid hRR
     have hst : Hid (((!NB) = false → i ≤ i + D.length ∧ [m].length ≤ i + D.length ∧ ∃ f, (s.drop (i + D.length)).length ≤ f ∧ binGo (f + 1) (s.drop (i + D.length)) [m] = R) ∧ ((!NB) = true → R.1 = none)) := hid (by
       have hD := hDH.out
       have hNB := hNBH.out
       have hB := hBH.out
       unfold binL at hRR
       rw [bin_one] at hRR
       by_cases h62 : skB 62 (s.drop i) = true
       · rw [h62, Bool.true_and] at hB
         rw [if_pos h62, hB] at hRR
         have hD0 : D = [] := by
           rw [← hD, skR_yes h62, List.takeWhile_cons_of_neg (by decide)]
         rw [hD0, nm_nil] at hNB
         subst hNB
         refine ⟨fun h => by simp at h, fun _ => ?_⟩
         rw [← hRR]; rfl
       · rw [if_neg h62, if_neg (by simp)] at hRR
         simp only [if_true, hD, hNB] at hRR
         cases NB with
         | false =>
           refine ⟨fun h => by simp at h, fun _ => ?_⟩
           rw [← hRR]; rfl
         | true =>
           refine ⟨fun _ => ?_, fun h => by simp at h⟩
           have hpos := nm_pos (r := s.drop i) (m := 255) (by rw [hD]; exact hNB)
           have hDl : 1 ≤ D.length := by
             rw [← drop_tw, hD, List.length_drop] at hpos
             omega
           refine ⟨by omega, by simp; omega, (s.drop i).length - 1, ?_, ?_⟩
           · rw [← List.drop_drop, List.length_drop]; omega
           · have hl : 1 ≤ (s.drop i).length := by omega
             have e : (s.drop i).length - 1 + 1 = (s.drop i).length := by omega
             rw [e, ← hRR, ← drop_tw, hD, List.drop_drop, hmH.out]
             simp)
     have hkl : Hid (i + D.length ≤ s.length) := hid (by
       have : D.length ≤ (s.drop i).length := by rw [← hDH.out]; exact tw_len_le
       rw [List.length_drop] at this
       omega)
     clear hRR hDH hNBH hBH hmH hap c2 hR1 hR1' hK1 hS1 hS1d x0 x1 x2 x3 x4 x5 x6 xf c1
     go_wp2_with fail
     go_loopw [] (fun wr => ∃ (acc : List Nat) (o : Option Addr) (c k : Nat) (b : Bool), Hid (BinS g s n w k b acc o c wr) ∧ k ≤ s.length ∧ acc.length ≤ s.length + 1 ∧ acc ≠ [] ∧ Hid ((b = false → i ≤ k ∧ acc.length ≤ k ∧ ∃ f, (s.drop k).length ≤ f ∧ binGo (f + 1) (s.drop k) acc = R) ∧ (b = true → R.1 = none))) (fun wr => rrMb g wr)
     case atStart => exact ⟨[m], o4, c4, i + D.length, !NB, hid hS5, hkl.out, by simp, by simp, hst⟩
     case round =>
       obtain ⟨acc, o, c, k, b, hS, hk, hla, hne, hst⟩ := hrel
       have c3 := isA g s k b n 44 (by omega) hk wr hS.out.rd
       rw [show bs [44] = ⟨#[44]⟩ from rfl] at c3
       obtain ⟨B, hB⟩ : ∃ B, (!b && skB 44 (s.drop k)) = B := ⟨_, rfl⟩
       rw [hB] at c3
       have hrb := (zge.1 hS.out.rb).1
       have hbt := (zge.1 hS.out.bt).1
       go_wp2_with fail
       refine c3.mono ?_
       rintro e w2 ⟨rfl, hR2, hK2⟩
       have hown2 := hK2.own hS.out.own (fun j hj e => by omega)
       have hS2' : ∀ k', RRf g s k' b n w2 → BinS g s n w k' b acc o c w2 := fun k' hR => ⟨hR, hS.out.kp.trans hK2, (hK2.block _ hrb (by omega)).trans hS.out.rb, (hK2.block _ hbt (by omega)).trans hS.out.bt, hown2, hS.out.lm⟩
       cases B with
       | true =>
         have hb0 : b = false := by cases b with | false => rfl | true => simp at hB
         subst hb0
         have hcm : skB 44 (s.drop k) = true := by simpa using hB
         obtain ⟨d1, d2⟩ := drop_skR hcm
         have hRk : RRf g s (k + 1) false n w2 := by simpa using hR2
         have hS2 := hS2' (k + 1) hRk
         obtain ⟨hik, hak, f, hf, hgo⟩ := hst.out.1 rfl
         have hS2d : BinS g s n w (k + 1) false acc o c w2.drew := ⟨hS2.rd.below (Below.refl _ w2).drew, hS2.kp.trans (Kpt.of_below (Below.refl _ w2).drew), hS2.rb, hS2.bt, own_blkS hS2.own (fun _ _ => rfl), hS2.lm⟩
         have c2 := rnumber_w g s (k + 1) n 255 (by omega) (by omega) w2.drew hS2d.rd
         obtain ⟨D2, hD⟩ : ∃ D, (s.drop (k + 1)).takeWhile digB = D := ⟨_, rfl⟩
         have hDn : pneg D2 = false := by rw [← hD]; exact pneg_digs _
         rw [hD] at c2
         obtain ⟨m2, hm, hm2⟩ := nm_byte D2 hDn
         obtain ⟨NB2, hNB⟩ : ∃ NB, nmB 255 D2 = NB := ⟨_, rfl⟩
         rw [hm, hNB] at c2
         have hwm : IntKind.u8.wrap (m2 : Int) = (m2 : Int) := by rw [IntKind.wrap_u8]; omega
         have hmz : (m2 : Int) < 256 := by omega
         have hap := hid (fun w3 (hR : RRf g s (k + 1 + D2.length) (!NB2) n w3) (hK : Kpt (fun j => j = g) w2.drew w3) => hS2d.ap hgw hR hK hm2 (by omega))
         have hkl : Hid (k + 1 + D2.length ≤ s.length) := hid (by
           have : D2.length ≤ (s.drop (k + 1)).length := by rw [← hD]; exact tw_len_le
           rw [List.length_drop] at this
           omega)
         have hst2 : Hid (((!NB2) = false → i ≤ k + 1 + D2.length ∧ (acc ++ [m2]).length ≤ k + 1 + D2.length ∧ ∃ f, (s.drop (k + 1 + D2.length)).length ≤ f ∧ binGo (f + 1) (s.drop (k + 1 + D2.length)) (acc ++ [m2]) = R) ∧ ((!NB2) = true → R.1 = none)) := hid (by
           have h62 : skB 62 (s.drop k) = false := skB_ne hcm (by decide)
           rw [bin_one, if_neg (by rw [h62]; simp), if_neg (by rw [hcm]; simp)] at hgo
           simp only [hne, if_false, ← d1, hD, hNB] at hgo
           have hlk : (s.drop k).length = s.length - k := List.length_drop
           cases NB2 with
           | false =>
             refine ⟨fun h => by simp at h, fun _ => ?_⟩
             rw [← hgo]; rfl
           | true =>
             refine ⟨fun _ => ⟨by omega, by simp; omega, f - 1, ?_, ?_⟩, fun h => by simp at h⟩
             · rw [List.length_drop]; omega
             · have e : f - 1 + 1 = f := by omega
               rw [e, ← hgo, ← drop_tw, hD, List.drop_drop, hm]
               simp)
         have hmes : Hid (∀ w5, RRf g s (k + 1 + D2.length) (!NB2) n w5 → rrMb g w5 < rrMb g wr) := hid (fun w5 h5 => by
           rw [h5.mesb, hS.out.rd.mesb]
           cases NB2 with
           | false => simp
           | true =>
             simp only [Bool.not_true, Bool.false_eq_true, if_false]
             omega)
         obtain ⟨x0, x1, x2, x3, x4, x5, x6⟩ := cell7 hS2.bt
         have xf : ∀ j, w2.frozen? ⟨w.heap.size + 1, j, none⟩ = false := (res7 hS2.bt).fr
         have hneH := hid hne
         have hlenH : Hid ((acc ++ [m2]).length ≤ s.length + 1) := hid (by simp; omega)
         clear hD hDn hm hNB hst hgo hf hik hak d1 hcm hR2 hK2 hS2' hown2 hB c3 hS hS2d hS2 hRk hne
         go_upto_region 6 with fail
         go_region_law (first | (refine step_append_run rfl (.tmp 19) (.tmp 23) 25 rfl (.slice o acc.length c) (.slice (some ⟨w3.heap.size, 0, none⟩) 1 1) (.slice o4 (acc.length + 1) c4) w4 (by simp [Act.eval, Act.put]) (by simp [Act.eval, Act.put]) hrn ?_) | (go_simp; go_at_call 33; refine c2.mono ?_; rintro e w3 ⟨rfl, hR3, hK3⟩; obtain ⟨o4, c4, w4, hrn, hc3, hc3a, hc4, hf4, hS5⟩ := hap.out w3 hR3 hK3; try go_simp))
         all_goals (try go_wp2_with fail)
         all_goals go_roundw
         all_goals first
           | exact ⟨acc ++ [m2], o4, c4, k + 1 + D2.length, !NB2, hid hS5, hkl.out, hlenH.out, by simp, hst2⟩
           | exact hmes.out _ hS5.rd
       | false =>
         have hRk : RRf g s k b n w2 := by simpa using hR2
         have hS2 := hid (hS2' k hRk)
         have hRBs := hS2.out.rb
         have hBTs := hS2.out.bt
         clear hR2 hK2 hS2' hown2 c3 hS hRk hrb hbt
         obtain ⟨y0, y1, y2, y3, f1, f2, f3⟩ := hS2.out.rd.cells
         obtain ⟨x0, x1, x2, x3, x4, x5, x6⟩ := cell7 hBTs
         have hend : Hid (∀ (W : World) (k' : Nat) (b' : Bool), RRf g s k' b' n W → Kpt (fun j => j = g) w2 W → RRf g s k' b' n W ∧ Kpt (fun j => j = g) w W ∧ W.heap[w.heap.size]? = some (.cells zr7 27 (0, 0)) ∧ W.heap[w.heap.size + 1]? = some (.cells (bx7 o acc.length c) 27 (0, 0)) ∧ TV (Zb (w.heap.size + 1) W) W (binT acc) (tmV 7 false nilS noS 0 nilS (.slice o acc.length c))) := hid (fun W k' b' hR hK => by
           have h2 := hS2.out
           have hr1 := (zge.1 h2.rb).1
           have hb1 := (zge.1 h2.bt).1
           have ho := hK.own h2.own (fun j hj e => by omega)
           obtain ⟨_, c', e, hc'⟩ := own_sl h2.own
           simp only [Value.slice.injEq, true_and] at e
           obtain ⟨_, rfl⟩ := e
           exact ⟨hR, h2.kp.trans hK, (hK.block _ hr1 (by omega)).trans h2.rb, (hK.block _ hb1 (by omega)).trans h2.bt, tv_binZ ho h2.lm (by omega) hc'⟩)
         cases b with
         | true =>
           have hbad := hid (hst.out.2 rfl)
           obtain ⟨W3, hW3⟩ : ∃ W3, W3 = w2.setCell ⟨g, 2, none⟩ (.bool true) := ⟨_, rfl⟩
           have hR3 : RRf g s k true n W3 := by rw [hW3]; exact hS2.out.rd.set2 true
           have hK3 : Kpt (fun j => j = g) w2 W3 := by rw [hW3]; exact Kpt.of_set (F := fun j => j = g) w2 (p := ⟨g, 2, none⟩) rfl _
           have hW3H := hid hW3
           clear hW3
           go_upto_region 8 with fail
           rw [← hW3H.out]
           obtain ⟨hRW0, hKW0, hRB, hBT, hTW0⟩ := hend.out W3 k true hR3 hK3
           have hRW := hid hRW0
           have hKW := hid hKW0
           have hTW := hid hTW0
           clear hRW0 hKW0 hTW0 x0 x1 x2 x3 x4 x5 x6 y0 y1 y2 y3 f1 f2 f3
           obtain ⟨x0, x1, x2, x3, x4, x5, x6⟩ := cell7 hBT
           obtain ⟨e0, e1, e2, e3, e4, e5, e6⟩ := cell7 hRB
           have efr : ∀ j, W3.frozen? ⟨w.heap.size, j, none⟩ = false := (res7 hRB).fr
           have hp7 := heap_put7 hRB (.int .i64 7) (.bool false) nilS (.string noS) (.int .i64 0) nilS (.slice o acc.length c)
           have hon := only_put W3 w.heap.size (.int .i64 7) (.bool false) nilS (.string noS) (.int .i64 0) nilS (.slice o acc.length c)
           obtain ⟨q0, q1, q2, q3, q4, q5, q6⟩ := cell7 hp7
           have hFin := hid (rdo_fin (w := w) (T := binT acc) hTW.out (Nat.le_refl _) hRW.out hKW.out hgw hon)
           clear hp7 hon
           go_wp2
           exact bodyPost_ret (v := tmV 7 false nilS noS 0 nilS (.slice o acc.length c)) (by simp [results, Tryz.results34, go_sem, q0, q1, q2, q3, q4, q5, q6]) rfl ⟨⟨_, binT acc, k, true, rfl, hFin.out, hk, fun h => (by cases h), fun _ => (by rw [hRH.out]; exact hbad.out)⟩⟩
         | false =>
           have c4 := is_w g s k n [62, 62] (by omega) hk w2 hS2.out.rd
           rw [show bs [62, 62] = ⟨#[62, 62]⟩ from rfl, pre_two] at c4
           obtain ⟨P, hP⟩ : ∃ P, (skB 62 (s.drop k) && skB 62 (skR 62 (s.drop k))) = P := ⟨_, rfl⟩
           rw [hP] at c4
           have h44 : skB 44 (s.drop k) = false := by simpa using hB
           obtain ⟨hik, hak, f, hf, hgo⟩ := hst.out.1 rfl
           have hl4 : ((4096 : Int) < (acc.length : Int)) = False := by simp only [eq_iff_iff, iff_false]; omega
           rw [bin_one] at hgo
           cases P with
           | true =>
             rw [Bool.and_eq_true] at hP
             have hd1 := drop_skR hP.1
             have hd2 := drop_skR (by rw [hd1.1]; exact hP.2 : skB 62 (s.drop (k + 1)) = true)
             have hk2 := hid (show k + 2 ≤ s.length by omega)
             have hgood : Hid (binL (s.drop i) = (some (binT acc), s.drop (k + 2)) ∧ i ≤ k + 2) := hid ⟨by
               rw [hRH.out, ← hgo, if_pos hP.1, if_pos hP.2, ← hd1.1, ← hd2.1], by omega⟩
             clear hP hd1 hd2 hgo hf hik hak h44 hst hB
             go_wp2_with fail
             refine c4.mono ?_
             rintro e w3 ⟨rfl, hR3', hK3'⟩
             have hR3'' : RRf g s (k + 2) false n w3 := by simpa using hR3'
             obtain ⟨W3, hW3⟩ : ∃ W3, W3 = w3.setCell ⟨g, 2, none⟩ (.bool false) := ⟨_, rfl⟩
             have hR3 : RRf g s (k + 2) false n W3 := by rw [hW3]; exact hR3''.set2 false
             have hK3 : Kpt (fun j => j = g) w2 W3 := by rw [hW3]; exact hK3'.trans (Kpt.of_set (F := fun j => j = g) w3 (p := ⟨g, 2, none⟩) rfl _)
             have hW3H := hid hW3
             clear hW3 c4 y0 y1 y2 y3 f1 f2 f3 x0 x1 x2 x3 x4 x5 x6
             have hg3 := (hend.out w3 (k + 2) false hR3'' hK3')
             obtain ⟨y0, y1, y2, y3, f1, f2, f3⟩ := hR3''.cells
             obtain ⟨x0, x1, x2, x3, x4, x5, x6⟩ := cell7 hg3.2.2.2.1
             clear hg3 hR3' hR3'' hK3'
             go_upto_region 8 with fail
             rw [← hW3H.out]
             obtain ⟨hRW0, hKW0, hRB, hBT, hTW0⟩ := hend.out W3 (k + 2) false hR3 hK3
             have hRW := hid hRW0
             have hKW := hid hKW0
             have hTW := hid hTW0
             clear hRW0 hKW0 hTW0 x0 x1 x2 x3 x4 x5 x6 y0 y1 y2 y3 f1 f2 f3
             obtain ⟨x0, x1, x2, x3, x4, x5, x6⟩ := cell7 hBT
             obtain ⟨e0, e1, e2, e3, e4, e5, e6⟩ := cell7 hRB
             have efr : ∀ j, W3.frozen? ⟨w.heap.size, j, none⟩ = false := (res7 hRB).fr
             have hp7 := heap_put7 hRB (.int .i64 7) (.bool false) nilS (.string noS) (.int .i64 0) nilS (.slice o acc.length c)
             have hon := only_put W3 w.heap.size (.int .i64 7) (.bool false) nilS (.string noS) (.int .i64 0) nilS (.slice o acc.length c)
             obtain ⟨q0, q1, q2, q3, q4, q5, q6⟩ := cell7 hp7
             have hFin := hid (rdo_fin (w := w) (T := binT acc) hTW.out (Nat.le_refl _) hRW.out hKW.out hgw hon)
             clear hp7 hon
             go_wp2
             exact bodyPost_ret (v := tmV 7 false nilS noS 0 nilS (.slice o acc.length c)) (by simp [results, Tryz.results34, go_sem, q0, q1, q2, q3, q4, q5, q6]) rfl ⟨⟨_, binT acc, k + 2, false, rfl, hFin.out, hk2.out, fun _ => hgood.out, fun h => (by cases h)⟩⟩
           | false =>
             have hbad : Hid ((binL (s.drop i)).1 = none) := hid (by
               rw [hRH.out, ← hgo]
               by_cases h62 : skB 62 (s.drop k) = true
               · rw [h62, Bool.true_and] at hP
                 rw [if_pos h62, hP]; rfl
               · rw [if_neg h62, if_pos ⟨hne, h44⟩])
             clear hP hgo hf hik hak h44 hst hB
             go_wp2_with fail
             refine c4.mono ?_
             rintro e w3 ⟨rfl, hR3', hK3'⟩
             have hR3'' : RRf g s k false n w3 := by simpa using hR3'
             obtain ⟨W3, hW3⟩ : ∃ W3, W3 = w3.setCell ⟨g, 2, none⟩ (.bool true) := ⟨_, rfl⟩
             have hR3 : RRf g s k true n W3 := by rw [hW3]; exact hR3''.set2 true
             have hK3 : Kpt (fun j => j = g) w2 W3 := by rw [hW3]; exact hK3'.trans (Kpt.of_set (F := fun j => j = g) w3 (p := ⟨g, 2, none⟩) rfl _)
             have hW3H := hid hW3
             clear hW3 c4 y0 y1 y2 y3 f1 f2 f3 x0 x1 x2 x3 x4 x5 x6
             have hg3 := (hend.out w3 k false hR3'' hK3')
             obtain ⟨y0, y1, y2, y3, f1, f2, f3⟩ := hR3''.cells
             obtain ⟨x0, x1, x2, x3, x4, x5, x6⟩ := cell7 hg3.2.2.2.1
             clear hg3 hR3' hR3'' hK3'
             go_upto_region 8 with fail
             rw [← hW3H.out]
             obtain ⟨hRW0, hKW0, hRB, hBT, hTW0⟩ := hend.out W3 k true hR3 hK3
             have hRW := hid hRW0
             have hKW := hid hKW0
             have hTW := hid hTW0
             clear hRW0 hKW0 hTW0 x0 x1 x2 x3 x4 x5 x6 y0 y1 y2 y3 f1 f2 f3
             obtain ⟨x0, x1, x2, x3, x4, x5, x6⟩ := cell7 hBT
             obtain ⟨e0, e1, e2, e3, e4, e5, e6⟩ := cell7 hRB
             have efr : ∀ j, W3.frozen? ⟨w.heap.size, j, none⟩ = false := (res7 hRB).fr
             have hp7 := heap_put7 hRB (.int .i64 7) (.bool false) nilS (.string noS) (.int .i64 0) nilS (.slice o acc.length c)
             have hon := only_put W3 w.heap.size (.int .i64 7) (.bool false) nilS (.string noS) (.int .i64 0) nilS (.slice o acc.length c)
             obtain ⟨q0, q1, q2, q3, q4, q5, q6⟩ := cell7 hp7
             have hFin := hid (rdo_fin (w := w) (T := binT acc) hTW.out (Nat.le_refl _) hRW.out hKW.out hgw hon)
             clear hp7 hon
             go_wp2
             exact bodyPost_ret (v := tmV 7 false nilS noS 0 nilS (.slice o acc.length c)) (by simp [results, Tryz.results34, go_sem, q0, q1, q2, q3, q4, q5, q6]) rfl ⟨⟨_, binT acc, k, true, rfl, hFin.out, hk, fun h => (by cases h), fun _ => hbad.out⟩⟩
end Go.Proofs.YtlojfmlaookpmaaGreatDoor
