/- Texts of mine, one behind the other: TextRfF, TextRfG, RSame, TextReadsW. -/
import Derived.Test.YtlojfmlaookpmaaGreatDoorSqW
import Derived.Test.YtlojfmlaookpmaaGreatDoorSqT
import Derived.Test.YtlojfmlaookpmaaGreatDoorSqN
import Derived.Test.YtlojfmlaookpmaaGreatDoorSqU
set_option linter.unusedSimpArgs false
set_option linter.unusedVariables false
set_option maxRecDepth 2000
open Array renaming getElem?_eq_some_iff → zge
namespace Go.Proofs.YtlojfmlaookpmaaGreatDoor
open Go.ChangeShapes Go.WideShapes Go.ChangeAt Go.RowKit Go.Shelf
theorem term_all (g : Nat) (s : List UInt8) (hs : s.length ≤ 3000) : ∀ (N i : Nat), s.length - i ≤ N → i ≤ s.length → Lib.validD (s.drop i) = true → TermC g s i := by
 intro N
 induction N with
 | zero =>
   intro i hN hi hv
   exact term_stepB g s i hs hi hv (fun i' h1 h2 _ => by omega) (fun b hb => by have := (List.getElem?_eq_some_iff.1 hb).1; omega)
 | succ N ih =>
   intro i hN hi hv
   have ht : ∀ i', i < i' → i' ≤ s.length → Lib.validD (s.drop i') = true → TermC g s i' := fun i' h1 h2 h3 => ih i' (by omega) h2 h3
   cases hb : s[i]? with
   | none => exact term_stepB g s i hs hi hv ht (fun b hb' => by rw [hb] at hb'; cases hb')
   | some b =>
     cases hd : (b == 45 || digB b) with
     | true => exact term_stepA g s i hs hi hv ht b hb hd
     | false => exact term_stepB g s i hs hi hv ht (fun b' hb' => by rw [hb] at hb'; injection hb' with e; rw [← e]; exact hd)
set_option maxHeartbeats 4000000 in
theorem rRead_w (s : List UInt8) (w : World) (hT : TabX w) (hs : s.length ≤ 3000) :
   Calls Tryz.prog 6 #[.string (bs s)] w fun e w' => ∃ v, e = .returned (.tuple #[v, .int .i64 (rdN s : Int), .int .i64 (rdE s)]) ∧ TmO w.heap.size w' (rdT s) v ∧ Below w.heap.size w w' := by
 obtain ⟨W1, hW1⟩ : ∃ W1, W1 = w.alloc (.cells zr7 27) := ⟨_, rfl⟩
 have bW1 : Below w.heap.size w W1 := by rw [hW1]; exact (Below.refl _ w).alloc (Nat.le_refl _) _
 have hrb1 : W1.heap[w.heap.size]? = some (.cells zr7 27 (0, 0)) := by rw [hW1]; exact heap_alloc_new w _
 obtain ⟨S, hS⟩ : ∃ S, bs s = S := ⟨_, rfl⟩
 have hSs : S.size = s.length := by rw [← hS]; exact bs_size s
 have hSl : S.data.toList = s := by rw [← hS]; exact bs_list s
 rw [hS]
 have hSH := hid hS
 obtain ⟨E, hE⟩ : ∃ E, rdE s = E := ⟨_, rfl⟩
 obtain ⟨N, hN⟩ : ∃ N, rdN s = N := ⟨_, rfl⟩
 obtain ⟨O, hO⟩ : ∃ O, rdT s = O := ⟨_, rfl⟩
 rw [hE, hN, hO]
 have hEH := hid hE
 have hNH := hid hN
 have hOH := hid hO
 unfold rdN at hNH
 unfold rdT at hOH
 rw [hE] at hNH hOH
 unfold rdE at hEH
 rw [if_neg (by omega)] at hEH
 have hgt : ((65536 : Int) < (S.size : Int)) = False := by simp only [eq_iff_iff, iff_false]; omega
 have cv := rvalid_w S W1 (by omega) (hT.below bW1).1.1
 rw [hSl] at cv
 have hTH := hid hT
 have hW1H := hid hW1
 have hrbH := hid hrb1
 have hbWH := hid bW1
 have hSsH := hid hSs
 obtain ⟨V, hV⟩ : ∃ V, Lib.validD s = V := ⟨_, rfl⟩
 rw [hV] at cv hEH
 clear hS hE hN hO hT hW1 hrb1 bW1 hSl
 cases V with
 | false =>
   have hE4 : E = 4 := by rw [← hEH.out, if_pos rfl]
   subst hE4
   have hN0 : N = 0 := by rw [← hNH.out]; rfl
   have hO0 : O = none := by rw [← hOH.out]; rfl
   subst hN0 hO0
   clear hEH hNH hOH hSH hV hTH hSs hSsH
   go_enter Tryz.func6, Tryz.ntmps6
   go_upto_region 1 with fail
   rw [← hW1H.out]
   go_wp2_with fail
   refine cv.mono ?_
   rintro e w2 ⟨rfl, b2⟩
   have hrb := (b2.block _ (zge.1 hrbH.out).1).trans hrbH.out
   have bW := hbWH.out.trans (below_le b2 hbWH.out.size)
   obtain ⟨e0, e1, e2, e3, e4, e5, e6⟩ := cell7 hrb
   have efr : ∀ j, w2.frozen? ⟨w.heap.size, j, none⟩ = false := (res7 hrb).fr
   have hp7 := heap_put7 hrb (.int .i64 0) (.bool false) nilS (.string noS) (.int .i64 0) nilS nilS
   have hon := only_put w2 w.heap.size (.int .i64 0) (.bool false) nilS (.string noS) (.int .i64 0) nilS nilS
   obtain ⟨q0, q1, q2, q3, q4, q5, q6⟩ := cell7 hp7
   have hbF := hid (bW.trans (hon.below (B := w.heap.size) (Nat.le_refl _)))
   clear hp7 hon
   clear cv b2 hrb bW
   go_wp2
   exact bodyPost_ret (v := .tuple #[zV, .int .i64 0, .int .i64 4]) (by simp [results, Tryz.results6, go_sem, q0, q1, q2, q3, q4, q5, q6]) rfl ⟨_, rfl, rfl, hbF.out⟩
 | true =>
   rw [if_neg (by simp)] at hEH
   have hgd := fun T (h : (readL s).1 = some T) => readL_gd (r := s) (by omega) h
   have hrl := readL_le s
   have htm := fun g => term_all g s hs s.length 0 (by omega) (Nat.zero_le _) (by rw [List.drop_zero]; exact hV)
   have hgdH := hid hgd
   have htmH := hid htm
   have hrlH := hid hrl
   clear hgd htm hrl hV hSs
   go_enter Tryz.func6, Tryz.ntmps6
   go_upto_region 1 with fail
   rw [← hW1H.out]
   go_wp2_with fail
   refine cv.mono ?_
   rintro e w2 ⟨rfl, b2⟩
   obtain ⟨W3, hW3⟩ : ∃ W3, W3 = w2.alloc (.cells #[.string S, .int .i64 0, .bool false, .int .i64 0] 51) := ⟨_, rfl⟩
   have b3 : Below w2.heap.size w2 W3 := by rw [hW3]; exact (Below.refl _ _).alloc (Nat.le_refl _) _
   have hR3 : RRf w2.heap.size s 0 false 0 W3 := ⟨by rw [hW3, hSH.out]; exact heap_alloc_new w2 _⟩
   have hW3s : W3.heap.size = w2.heap.size + 1 := by rw [hW3]; simp
   have bW2 := hbWH.out.trans (below_le b2 hbWH.out.size)
   have bW3 := bW2.trans (below_le b3 bW2.size)
   have hrb2 := (b2.block _ (zge.1 hrbH.out).1).trans hrbH.out
   have hrb3 := (b3.block _ (zge.1 hrb2).1).trans hrb2
   have hrl2 : w.heap.size < w2.heap.size := (zge.1 hrb2).1
   have c1 := htmH.out w2.heap.size 0 W3 hR3 (Nat.le_refl _) (fun w' hw' => hTH.out.below (bW3.trans (hw'.below (by omega) (fun k hk => by omega))))
   rw [hW3] at c1
   have hW3H := hid hW3
   clear cv hW3 b2 bW2 hrb2
   go_wp2_with fail
   refine c1.mono ?_
   rw [← hW3H.out]
   rintro e w4 ⟨⟨v, T, i4, b4, n4, rfl, hRO, hi4, hg4, hb4⟩⟩
   obtain ⟨k, neg, od, ld, cd, nm, n, ol, ll, cl, ob, lb, cb, rfl⟩ := hRO.tv.form
   obtain ⟨W5, hW5⟩ : ∃ W5, W5 = w4.alloc (.cells #[.int .i64 k, .bool neg, .slice od ld cd, .string nm, .int .i64 n, .slice ol ll cl, .slice ob lb cb] 27) := ⟨_, rfl⟩
   have b5 : Below w4.heap.size w4 W5 := by rw [hW5]; exact (Below.refl _ w4).alloc (Nat.le_refl _) _
   have hx5 : W5.heap[w4.heap.size]? = some (.cells #[.int .i64 k, .bool neg, .slice od ld cd, .string nm, .int .i64 n, .slice ol ll cl, .slice ob lb cb] 27 (0, 0)) := by rw [hW5]; exact heap_alloc_new w4 _
   have hs4 := hRO.kp.size
   have bw4 : Below w.heap.size w w4 := bW3.trans (hRO.kp.below (by omega) (fun k hk => by omega))
   have bw5 := bw4.trans (below_le b5 bw4.size)
   have hR5 := hRO.rd.below b5
   have hrb4 := (hRO.kp.block _ (zge.1 hrb3).1 (by omega)).trans hrb3
   have hrb5 := (b5.block _ (zge.1 hrb4).1).trans hrb4
   have hTV5 : TV (Zb W3.heap.size W5) W5 T (tmV k neg (.slice od ld cd) nm n (.slice ol ll cl) (.slice ob lb cb)) := TV.mono (fun q _ hq => ⟨hq.1, Nat.lt_of_lt_of_le hq.2 b5.size⟩) _ _ (TV.zs (fun q hq => b5.block q hq.2) _ _ hRO.tv)
   have hW5H := hid hW5
   have hgH := hid hg4
   have hbH := hid hb4
   have hTVH := hid hTV5
   have hb5H := hid bw5
   have hx5H := hid hx5
   have hrb5H := hid hrb5
   have hR5H := hid hR5
   clear c1 hW5 hg4 hb4 hTV5 hRO hrb4 hrb3 bw4 bw5 b5 hR3 bW3 b3 hrb5
   obtain ⟨x0, x1, x2, x3, x4, x5, x6⟩ := cell7 hx5
   obtain ⟨y0, y1, y2, y3, f1, f2, f3⟩ := hR5.cells
   rw [hSH.out] at y0
   clear hx5 hR5
   go_upto_region 7 with fail
   rw [← hW5H.out]
   clear hW5H
   cases b4 with
   | true =>
     have hbo : badO (readL s).1 := by have := hbH.out (by first | rfl | trivial); rwa [List.drop_zero] at this
     have hE4 : E = 10 := by
       rw [← hEH.out]
       cases hq : (readL s).1 with
       | none => rfl
       | some U =>
         simp only
         rw [unf_may (hbo U hq)]; rfl
     subst hE4
     have hN0 : N = 0 := by rw [← hNH.out]; rfl
     have hO0 : O = none := by rw [← hOH.out]; rfl
     subst hN0 hO0
     have hrb := hrb5H.out
     have bW := hb5H.out
     obtain ⟨e0, e1, e2, e3, e4, e5, e6⟩ := cell7 hrb
     have efr : ∀ j, W5.frozen? ⟨w.heap.size, j, none⟩ = false := (res7 hrb).fr
     have hp7 := heap_put7 hrb (.int .i64 0) (.bool false) nilS (.string noS) (.int .i64 0) nilS nilS
     have hon := only_put W5 w.heap.size (.int .i64 0) (.bool false) nilS (.string noS) (.int .i64 0) nilS nilS
     obtain ⟨q0, q1, q2, q3, q4, q5, q6⟩ := cell7 hp7
     have hbF := hid (bW.trans (hon.below (B := w.heap.size) (Nat.le_refl _)))
     clear hp7 hon
     clear hrb bW hbo hbH hgH hEH hNH hOH hgdH htmH hrlH
     go_wp2
     exact bodyPost_ret (v := .tuple #[zV, .int .i64 0, .int .i64 10]) (by simp [results, Tryz.results6, go_sem, q0, q1, q2, q3, q4, q5, q6]) rfl ⟨_, rfl, rfl, hbF.out⟩
   | false =>
     obtain ⟨p1, p2, _, _⟩ := hgH.out (by first | rfl | trivial)
     rw [List.drop_zero] at p1 p2
     obtain ⟨hg, hD⟩ := hgdH.out T p1
     have cm := rMay_w T _ W5 hg (TV.mono (fun q hq hz => hq) _ _ hTVH.out) (hTH.out.below hb5H.out).1.1
     obtain ⟨mb, hmb⟩ : ∃ mb, mayB T = mb := ⟨_, rfl⟩
     have hEb := hEH.out
     rw [p1] at hEb
     simp only at hEb
     rw [hmb] at cm hEb
     have hEbH := hid hEb
     have hp := hid (And.intro p1 p2)
     clear hmb hEb hEH hg hD hgdH p1 p2 hbH hgH htmH
     go_wp2_with fail
     refine cm.mono ?_
     rintro e w6 ⟨rfl, b6⟩
     have hrb := (b6.block _ (zge.1 hrb5H.out).1).trans hrb5H.out
     have bW := hb5H.out.trans (below_le b6 hb5H.out.size)
     have hx6 := (b6.block _ (zge.1 hx5H.out).1).trans hx5H.out
     have hR6 := hR5H.out.below b6
     have hT6 : TV (Zb W3.heap.size w6) w6 T (tmV k neg (.slice od ld cd) nm n (.slice ol ll cl) (.slice ob lb cb)) := TV.mono (fun q _ hq => ⟨hq.1, Nat.lt_of_lt_of_le hq.2 b6.size⟩) _ _ (TV.zs (fun q hq => b6.block q hq.2) _ _ hTVH.out)
     clear cm x0 x1 x2 x3 x4 x5 x6 y0 y1 y2 y3 f1 f2 f3
     cases mb with
     | false =>
       have hE4 : E = 10 := by rw [← hEbH.out]; rfl
       subst hE4
       have hN0 : N = 0 := by rw [← hNH.out]; rfl
       have hO0 : O = none := by rw [← hOH.out]; rfl
       subst hN0 hO0
       obtain ⟨e0, e1, e2, e3, e4, e5, e6⟩ := cell7 hrb
       have efr : ∀ j, w6.frozen? ⟨w.heap.size, j, none⟩ = false := (res7 hrb).fr
       have hp7 := heap_put7 hrb (.int .i64 0) (.bool false) nilS (.string noS) (.int .i64 0) nilS nilS
       have hon := only_put w6 w.heap.size (.int .i64 0) (.bool false) nilS (.string noS) (.int .i64 0) nilS nilS
       obtain ⟨q0, q1, q2, q3, q4, q5, q6⟩ := cell7 hp7
       have hbF := hid (bW.trans (hon.below (B := w.heap.size) (Nat.le_refl _)))
       clear hp7 hon
       clear hrb bW hx6 hT6 hR6 b6 hNH hOH hrlH
       go_wp2
       exact bodyPost_ret (v := .tuple #[zV, .int .i64 0, .int .i64 10]) (by simp [results, Tryz.results6, go_sem, q0, q1, q2, q3, q4, q5, q6]) rfl ⟨_, rfl, rfl, hbF.out⟩
     | true =>
       have hE4 : E = 0 := by rw [← hEbH.out]; rfl
       subst hE4
       have hNz : (i4 : Int) = (N : Int) := by
         have h1 := hNH.out
         rw [if_pos rfl, hp.out.2, List.length_drop] at h1
         omega
       have hO0 : O = some T := by rw [← hOH.out]; exact hp.out.1
       subst hO0
       obtain ⟨x0, x1, x2, x3, x4, x5, x6⟩ := cell7 hx6
       obtain ⟨y0, y1, y2, y3, f1, f2, f3⟩ := hR6.cells
       obtain ⟨e0, e1, e2, e3, e4, e5, e6⟩ := cell7 hrb
       have efr : ∀ j, w6.frozen? ⟨w.heap.size, j, none⟩ = false := (res7 hrb).fr
       have hp7 := heap_put7 hrb (.int .i64 k) (.bool neg) (.slice od ld cd) (.string nm) (.int .i64 n) (.slice ol ll cl) (.slice ob lb cb)
       have hon := only_put w6 w.heap.size (.int .i64 k) (.bool neg) (.slice od ld cd) (.string nm) (.int .i64 n) (.slice ol ll cl) (.slice ob lb cb)
       obtain ⟨W9, hW9⟩ : ∃ W9, W9 = (((((((w6.setCell ⟨w.heap.size, 0, none⟩ (.int .i64 k)).setCell ⟨w.heap.size, 1, none⟩ (.bool neg)).setCell ⟨w.heap.size, 2, none⟩ (.slice od ld cd)).setCell ⟨w.heap.size, 3, none⟩ (.string nm)).setCell ⟨w.heap.size, 4, none⟩ (.int .i64 n)).setCell ⟨w.heap.size, 5, none⟩ (.slice ol ll cl)).setCell ⟨w.heap.size, 6, none⟩ (.slice ob lb cb)) := ⟨_, rfl⟩
       have hTF : Hid (TmO w.heap.size W9.drew (some T) (tmV k neg (.slice od ld cd) nm n (.slice ol ll cl) (.slice ob lb cb))) := hid (by
         rw [← hW9] at hon
         have h1 := TV.mono (Z' := ZnS w.heap.size W9) (fun q _ hq => (⟨by have := hq.1; omega, by rw [hon.2.1]; exact hq.2⟩ : ZnS w.heap.size W9 q)) _ _ (TV.zs (Z := Zb W3.heap.size w6) (fun q hq => hon.2.2 q (by have := hq.1; omega)) _ _ hT6)
         exact tv_drew h1)
       have hBF : Hid (Below w.heap.size w W9.drew) := hid (by rw [hW9]; exact (bW.trans (hon.below (B := w.heap.size) (Nat.le_refl _))).drew)
       obtain ⟨q0, q1, q2, q3, q4, q5, q6⟩ := cell7 hp7
       rw [hW9] at hTF hBF
       have hne1 : w2.heap.size ≠ w.heap.size := by omega
       have hne2 := hne1.symm
       have hne3 : w4.heap.size ≠ w.heap.size := by omega
       have hne4 := hne3.symm
       clear hp7 hon hW9 hR6 hx6 hrb b6 bW hT6 hNH hOH hrlH hp
       go_wp2
       go_region
       go_wp2
       exact bodyPost_ret (v := .tuple #[tmV k neg (.slice od ld cd) nm n (.slice ol ll cl) (.slice ob lb cb), .int .i64 (N : Int), .int .i64 0]) (by simp [results, Tryz.results6, go_sem, q0, q1, q2, q3, q4, q5, q6, hNz]) rfl ⟨_, rfl, hTF.out, hBF.out⟩
set_option maxHeartbeats 4000000 in
theorem rParse_w (s : List UInt8) (w : World) (hT : TabX w) (hs : s.length ≤ 3000) :
   Calls Tryz.prog 8 #[.string (bs s)] w fun e w' => ∃ v, e = .returned (.tuple #[v, .int .i64 (paE s)]) ∧ TmO w.heap.size w' (paT s) v ∧ Below w.heap.size w w' := by
 obtain ⟨W1, hW1⟩ : ∃ W1, W1 = w.alloc (.cells #[.int .i64 0, .bool false, .slice none 0 0, .string ⟨#[]⟩, .int .i64 0, .slice none 0 0, .slice none 0 0] 27) := ⟨_, rfl⟩
 have bW : Below w.heap.size w W1 := by rw [hW1]; exact (Below.refl _ w).alloc (Nat.le_refl _) _
 have hrb : W1.heap[w.heap.size]? = some (.cells #[.int .i64 0, .bool false, .slice none 0 0, .string ⟨#[]⟩, .int .i64 0, .slice none 0 0, .slice none 0 0] 27 (0, 0)) := by rw [hW1]; exact heap_alloc_new w _
 have hWs : W1.heap.size = w.heap.size + 1 := by rw [hW1]; simp
 have cr := rRead_w s W1 (hT.below bW) hs
 have hW1H := hid hW1
 have hrbH := hid hrb
 have hbWH := hid bW
 have hWsH := hid hWs
 obtain ⟨S, hS⟩ : ∃ S, bs s = S := ⟨_, rfl⟩
 have hSs : S.size = s.length := by rw [← hS]; exact bs_size s
 rw [hS] at cr
 rw [hS]
 obtain ⟨E, hE⟩ : ∃ E, rdE s = E := ⟨_, rfl⟩
 obtain ⟨N, hN⟩ : ∃ N, rdN s = N := ⟨_, rfl⟩
 obtain ⟨O, hO⟩ : ∃ O, rdT s = O := ⟨_, rfl⟩
 obtain ⟨E', hE'⟩ : ∃ E', paE s = E' := ⟨_, rfl⟩
 obtain ⟨O', hO'⟩ : ∃ O', paT s = O' := ⟨_, rfl⟩
 have hE2 := hE'
 have hO2 := hO'
 unfold paE at hE2
 unfold paT at hO2
 rw [hE, hN] at hE2
 rw [hE', hO] at hO2
 rw [hE', hO']
 rw [hE, hN, hO] at cr
 have hE2H := hid hE2
 have hO2H := hid hO2
 have hSsH := hid hSs
 clear hE hN hO hE' hO' hS hrb bW hWs hW1 hT hE2 hO2 hSs
 go_enter Tryz.func8, Tryz.ntmps8
 go_upto_region 1 with fail
 rw [← hW1H.out]
 go_wp2_with fail
 refine cr.mono ?_
 rintro e w2 ⟨v2, rfl, hV, b2⟩
 have hVH := hid hV
 obtain ⟨k, neg, od, ld, cd, nm, n, ol, ll, cl, ob, lb, cb, rfl⟩ := tmo_form hV
 obtain ⟨W5, hW5⟩ : ∃ W5, W5 = w2.alloc (.cells #[.int .i64 k, .bool neg, .slice od ld cd, .string nm, .int .i64 n, .slice ol ll cl, .slice ob lb cb] 27) := ⟨_, rfl⟩
 have bA : Below w2.heap.size w2 W5 := by rw [hW5]; exact (Below.refl _ w2).alloc (Nat.le_refl _) _
 have b5 : Below W1.heap.size W1 W5 := b2.trans (below_le bA b2.size)
 have hxA : W5.heap[w2.heap.size]? = some (.cells #[.int .i64 k, .bool neg, .slice od ld cd, .string nm, .int .i64 n, .slice ol ll cl, .slice ob lb cb] 27 (0, 0)) := by rw [hW5]; exact heap_alloc_new w2 _
 obtain ⟨x0, x1, x2, x3, x4, x5, x6⟩ := cell7 hxA
 have hW5H := hid hW5
 have hbAH := hid bA
 clear hV cr hW5 hxA bA b2 hW1H
 have hE2 := hE2H.out
 have hO2 := hO2H.out
 have hSs := hSsH.out
 by_cases h0 : E = 0
 · subst h0
   rw [if_pos rfl] at hE2
   by_cases h1 : N < s.length
   · rw [if_pos h1] at hE2
     subst hE2
     have hO0 : O' = none := by rw [← hO2]; rfl
     subst hO0
     have hz : (N : Int) < (S.size : Int) := by omega
     have hrb5 := (b5.block _ (zge.1 hrbH.out).1).trans hrbH.out
     have bW5 := hbWH.out.trans (below_le b5 hbWH.out.size)
     obtain ⟨e0, e1, e2, e3, e4, e5, e6⟩ := cell7 hrb5
     have efr : ∀ j, W5.frozen? ⟨w.heap.size, j, none⟩ = false := (res7 hrb5).fr
     have hp7 := heap_put7 hrb5 (.int .i64 0) (.bool false) nilS (.string noS) (.int .i64 0) nilS nilS
     have hon := only_put W5 w.heap.size (.int .i64 0) (.bool false) nilS (.string noS) (.int .i64 0) nilS nilS
     obtain ⟨q0, q1, q2, q3, q4, q5, q6⟩ := cell7 hp7
     have hbF := hid (bW5.trans (hon.below (B := w.heap.size) (Nat.le_refl _)))
     clear hO2H hE2H hO2 h1 hSs hVH hp7 hon hrb5 bW5 hbAH b5
     go_upto_region 2 with fail
     rw [← hW5H.out]
     go_wp2
     exact bodyPost_ret (v := .tuple #[zV, .int .i64 10]) (by simp [results, Tryz.results8, go_sem, q0, q1, q2, q3, q4, q5, q6]) rfl ⟨_, rfl, rfl, hbF.out⟩
   · rw [if_neg h1] at hE2
     subst hE2
     rw [if_pos rfl] at hO2
     subst hO2
     have hz0 : ¬ (N : Int) < (S.size : Int) := by omega
     have hz : ((N : Int) < (S.size : Int)) = False := by simp only [hz0]
     clear hz0
     have hrb5 := (b5.block _ (zge.1 hrbH.out).1).trans hrbH.out
     have bW5 := hbWH.out.trans (below_le b5 hbWH.out.size)
     obtain ⟨e0, e1, e2, e3, e4, e5, e6⟩ := cell7 hrb5
     have efr : ∀ j, W5.frozen? ⟨w.heap.size, j, none⟩ = false := (res7 hrb5).fr
     have hp7 := heap_put7 hrb5 (.int .i64 k) (.bool neg) (.slice od ld cd) (.string nm) (.int .i64 n) (.slice ol ll cl) (.slice ob lb cb)
     have hon := only_put W5 w.heap.size (.int .i64 k) (.bool neg) (.slice od ld cd) (.string nm) (.int .i64 n) (.slice ol ll cl) (.slice ob lb cb)
     obtain ⟨q0, q1, q2, q3, q4, q5, q6⟩ := cell7 hp7
     have hbF := hid (bW5.trans (hon.below (B := w.heap.size) (Nat.le_refl _)))
     have hTF : Hid (TmO w.heap.size (((((((W5.setCell ⟨w.heap.size, 0, none⟩ (.int .i64 k)).setCell ⟨w.heap.size, 1, none⟩ (.bool neg)).setCell ⟨w.heap.size, 2, none⟩ (.slice od ld cd)).setCell ⟨w.heap.size, 3, none⟩ (.string nm)).setCell ⟨w.heap.size, 4, none⟩ (.int .i64 n)).setCell ⟨w.heap.size, 5, none⟩ (.slice ol ll cl)).setCell ⟨w.heap.size, 6, none⟩ (.slice ob lb cb)) O (tmV k neg (.slice od ld cd) nm n (.slice ol ll cl) (.slice ob lb cb))) := hid (tmo_only (g := w.heap.size) (tmo_bel hVH.out hbAH.out (Nat.le_refl _)) hon (by have := hWsH.out; omega) (by have := hWsH.out; omega))
     clear hO2H hE2H h1 hSs hVH hp7 hon hrb5 bW5 hbAH b5
     go_upto_region 2 with fail
     rw [← hW5H.out]
     go_wp2
     exact bodyPost_ret (v := .tuple #[tmV k neg (.slice od ld cd) nm n (.slice ol ll cl) (.slice ob lb cb), .int .i64 0]) (by simp [results, Tryz.results8, go_sem, q0, q1, q2, q3, q4, q5, q6]) rfl ⟨_, rfl, hTF.out, hbF.out⟩
 · have h0b : (E != 0) = true := by simp [h0]
   rw [if_neg h0] at hE2
   subst hE2
   have hO0 : O' = none := by rw [← hO2, if_neg h0]
   subst hO0
   have hrb5 := (b5.block _ (zge.1 hrbH.out).1).trans hrbH.out
   have bW5 := hbWH.out.trans (below_le b5 hbWH.out.size)
   obtain ⟨e0, e1, e2, e3, e4, e5, e6⟩ := cell7 hrb5
   have efr : ∀ j, W5.frozen? ⟨w.heap.size, j, none⟩ = false := (res7 hrb5).fr
   have hp7 := heap_put7 hrb5 (.int .i64 0) (.bool false) nilS (.string noS) (.int .i64 0) nilS nilS
   have hon := only_put W5 w.heap.size (.int .i64 0) (.bool false) nilS (.string noS) (.int .i64 0) nilS nilS
   obtain ⟨q0, q1, q2, q3, q4, q5, q6⟩ := cell7 hp7
   have hbF := hid (bW5.trans (hon.below (B := w.heap.size) (Nat.le_refl _)))
   clear hO2H hE2H hO2 hSs hVH hp7 hon hrb5 bW5 hbAH b5 h0
   go_upto_region 2 with fail
   rw [← hW5H.out]
   go_wp2
   exact bodyPost_ret (v := .tuple #[zV, .int .i64 E]) (by simp [results, Tryz.results8, go_sem, q0, q1, q2, q3, q4, q5, q6]) rfl ⟨_, rfl, rfl, hbF.out⟩
open Go.ChangeMaps
set_option maxHeartbeats 2000000 in
theorem rSame_w (A U : Tm) (va vb : Value) (w : World) (hoA : ∀ p ∈ parts A, p.ok1) (hoU : ∀ p ∈ parts U, p.ok1) (hA : TV (Low w) w A va) (hU : TV (Low w) w U vb) (hT : Tabs w) :
   Calls Tryz.prog 9 #[va, vb] w fun e w' => e = .returned (.bool (cT A U == 0)) ∧ Below w.heap.size w w' := by
 have HA := hid hA
 have HU := hid hU
 obtain ⟨pk, pneg, pod, pld, pcd, pnm, pn, pol, pll, pcl, pob, plb, pcb, rfl⟩ := hA.form
 obtain ⟨qk, qneg, qod, qld, qcd, qnm, qn, qol, qll, qcl, qob, qlb, qcb, rfl⟩ := hU.form
 clear hA hU
 obtain ⟨kA, kB, hB0, hz0⟩ := bx2 w (.int .i64 pk) (.bool pneg) (.slice pod pld pcd) (.string pnm) (.int .i64 pn) (.slice pol pll pcl) (.slice pob plb pcb) (.int .i64 qk) (.bool qneg) (.slice qod qld qcd) (.string qnm) (.int .i64 qn) (.slice qol qll qcl) (.slice qob qlb qcb) 27 27
 have hTA := tv_below HA.out hB0
 have hTU := tv_below HU.out hB0
 have hT0 := hT.below hB0
 go_enter Tryz.func9, Tryz.ntmps9
 go_wp2_with fail
 generalize ((w.alloc (.cells #[.int .i64 pk, .bool pneg, .slice pod pld pcd, .string pnm, .int .i64 pn, .slice pol pll pcl, .slice pob plb pcb] 27)).alloc (.cells #[.int .i64 qk, .bool qneg, .slice qod qld qcd, .string qnm, .int .i64 qn, .slice qol qll qcl, .slice qob qlb qcb] 27)) = W0 at *
 refine (rCompare_w (tsz A) A U _ _ _ (Nat.le_refl _) hoA hoU hTA hTU hT0).mono ?_
 rintro e w1 ⟨rfl, b1⟩
 go_wp2
 go_ret
 exact ⟨rfl, below_and hB0 (Nat.le_refl _) b1⟩
end Go.Proofs.YtlojfmlaookpmaaGreatDoor
namespace Go.Proofs.YtlojfmlaookpmaaGreatDoor.textReads
open Go.ChangeShapes Go.WideShapes Go.ChangeAt Go.ChangeMaps Go.RowKit Go.Shelf
abbrev Tabs (w : World) : Prop := TabX w
mutual
theorem cT_me : ∀ a : Tm, cT a a = 0
 | .mk k neg d nm n l b => by
   have hz : ∀ x : Int, cmpZ x x = 0 := fun x => by unfold cmpZ; simp
   rw [cT, hz, lx_zero]
   by_cases h0 : k = 0
   · rw [if_pos h0, hz]
   rw [if_neg h0]
   by_cases h1 : k = 1
   · rw [if_pos h1]
     unfold lessZ_o
     split
     · exact lexZ_self _
     · have cb : ∀ a : List UInt8, Lib.compareBytes a a = 0 := by
         intro a
         induction a with
         | nil => rfl
         | cons x xs ih => unfold Lib.compareBytes; simp [UInt8.lt_irrefl, ih]
       exact cb _
   rw [if_neg h1]
   by_cases h2 : k = 2 ∨ k = 3
   · rw [if_pos h2, hz]
   rw [if_neg h2]
   by_cases h7 : k = 7
   · rw [if_pos h7, lexZ_self]
   rw [if_neg h7]
   by_cases h4 : k = 4 ∨ k = 6
   · rw [if_pos h4, hz, lx_zero, cR_me l]
   rw [if_neg h4]
theorem cR_me : ∀ l : List Tm, cR l l = 0
 | [] => cR_nil _
 | t :: l => by rw [cR_cons, cT_me t, lx_zero, cR_me l]
end
abbrev zT : Tm := Tm.mk 0 false [] noS 0 [] []
theorem zT_ok : ∀ p ∈ parts zT, p.ok1 := by
 intro p hp
 simp [parts, partsL] at hp
 subst hp
 exact ⟨by simp, by decide, by simp, by simp, Lm.nil _⟩
def gT (o : Option Tm) : Tm := o.getD zT
theorem gT_tv {g : Nat} {w : World} {o : Option Tm} {v : Value} (h : TmO g w o v) : TV (Low w) w (gT o) v := by
 cases o with
 | none =>
   have e : v = zV := h
   subst e
   exact tv_flat 0 noS 0
 | some T => exact TV.mono (fun _ _ h => h.2) _ _ h
theorem gT_rd {s : List UInt8} (hs : s.length ≤ 3000) : ∀ p ∈ parts (gT (rdT s)), p.ok1 := by
 cases h : rdT s with
 | none => exact zT_ok
 | some T =>
   unfold rdT at h
   split at h
   · exact (readL_gd (by omega) h).1
   · cases h
theorem gT_pa {s : List UInt8} (hs : s.length ≤ 3000) : ∀ p ∈ parts (gT (paT s)), p.ok1 := by
 unfold paT
 split
 · exact gT_rd hs
 · exact zT_ok
set_option maxHeartbeats 4000000 in
set_option maxRecDepth 8000 in
theorem walk {H : Type} (enc : TypeId × Value → H) (base : Nat) (w : World) (v0 : Value) (d0 : DataW H) (p0 : List MemPlace)
   (o0 : Value.okWide Tryz.prog w .any base 9 v0) (h0 : DataW.Trod enc Tryz.prog w 0 (fun _ => true) true 9 v0 d0 p0)
   (hT : Tabs w) :
   Calls Tryz.prog 3 #[v0] w fun e w' => e = .returned (.bool true) ∧ Below w.heap.size w w' := by
 obtain ⟨S, rfl, rfl, rfl, wa⟩ := open_string Tryz.underlying9 o0 h0
 clear o0 h0
 have hTH := hid hT
 go_enter Tryz.func3, Tryz.ntmps3
 go_wp2_with fail
 refine (awake_ok _ hT).mono ?_
 rintro e w1 ⟨rfl, b1⟩
 have b1H := hid b1
 by_cases hl : (3000 : Int) < (S.size : Int)
 · clear b1
   go_wp2
   go_ret
   exact ⟨rfl, b1H.out⟩
 have hsS : S.data.toList.length ≤ 3000 := by
   have : S.data.toList.length = S.size := Array.length_toList
   omega
 have hok1 := gT_rd hsS
 have hok2 := gT_pa hsS
 have c1 := Read_w S.data.toList w1 (hT.below b1) (by omega)
 have c2 := fun w' (hb : Below w.heap.size w w') => rRead_w S.data.toList w' (hT.below hb) hsS
 have c3 := fun w' (hb : Below w.heap.size w w') => Parse_w S.data.toList w' (hT.below hb) (by omega)
 have c4 := fun w' (hb : Below w.heap.size w w') => rParse_w S.data.toList w' (hT.below hb) hsS
 rw [bs_bytes] at c1 c2 c3 c4
 obtain ⟨E, hE⟩ : ∃ E, rdE S.data.toList = E := ⟨_, rfl⟩
 obtain ⟨N, hN⟩ : ∃ N, rdN S.data.toList = N := ⟨_, rfl⟩
 obtain ⟨O, hO⟩ : ∃ O, rdT S.data.toList = O := ⟨_, rfl⟩
 obtain ⟨PE, hPE⟩ : ∃ E, paE S.data.toList = E := ⟨_, rfl⟩
 obtain ⟨PO, hPO⟩ : ∃ O, paT S.data.toList = O := ⟨_, rfl⟩
 rw [hE, hN, hO] at c1 c2
 rw [hPE, hPO] at c3 c4
 rw [hO] at hok1
 rw [hPO] at hok2
 have c5 := fun (v v' : Value) w' (hb : Below w.heap.size w w') (h1 : TV (Low w') w' (gT O) v) (h2 : TV (Low w') w' (gT O) v') => rSame_w (gT O) (gT O) v v' w' hok1 hok1 h1 h2 (hT.below hb).1.1
 have c6 := fun (v v' : Value) w' (hb : Below w.heap.size w w') (h1 : TV (Low w') w' (gT PO) v) (h2 : TV (Low w') w' (gT PO) v') => rSame_w (gT PO) (gT PO) v v' w' hok2 hok2 h1 h2 (hT.below hb).1.1
 rw [cT_me] at c5 c6
 have c2H := hid c2
 have c3H := hid c3
 have c4H := hid c4
 have c5H := hid c5
 have c6H := hid c6
 clear hE hN hO hPE hPO hok1 hok2 hsS c2 c3 c4 c5 c6 hT b1
 go_wp2_with fail
 refine c1.mono ?_
 rintro e w2 ⟨v2, rfl, hV2, b2⟩
 obtain ⟨ak, aneg, aod, ald, acd, anm, an, aol, all, acl, aob, alb, acb, rfl⟩ := tmo_form hV2
 obtain ⟨W3, hW3⟩ : ∃ W, W = w2.alloc (.cells #[.int .i64 ak, .bool aneg, .slice aod ald acd, .string anm, .int .i64 an, .slice aol all acl, .slice aob alb acb] 27) := ⟨_, rfl⟩
 have b3 : Below w2.heap.size w2 W3 := by rw [hW3]; exact (Below.refl _ w2).alloc (Nat.le_refl _) _
 have hg3 := hid (show W3.heap[w2.heap.size]? = some (.cells #[.int .i64 ak, .bool aneg, .slice aod ald acd, .string anm, .int .i64 an, .slice aol all acl, .slice aob alb acb] 27 (0, 0)) by rw [hW3]; exact heap_alloc_new w2 _)
 have bb3 : Below w1.heap.size w1 W3 := b2.trans (below_le b3 b2.size)
 have d3 := hid (below_and b1H.out (Nat.le_refl _) bb3)
 have hV3 := hid (tmo_bel hV2 b3 (Nat.le_refl _))
 have bbH3 := hid bb3
 have c2 := c2H.out W3 d3.out
 have hW3H := hid hW3
 clear c1 hV2 b2 b3 bb3 hW3
 go_upto_region 6 with fail
 rw [← hW3H.out]
 clear hW3H
 go_wp2_with fail
 refine c2.mono ?_
 rintro e w4 ⟨v4, rfl, hV4, b4⟩
 obtain ⟨bk, bneg, bod, bld, bcd, bnm, bn, bol, bll, bcl, bob, blb, bcb, rfl⟩ := tmo_form hV4
 obtain ⟨W5, hW5⟩ : ∃ W, W = w4.alloc (.cells #[.int .i64 bk, .bool bneg, .slice bod bld bcd, .string bnm, .int .i64 bn, .slice bol bll bcl, .slice bob blb bcb] 27) := ⟨_, rfl⟩
 have b5 : Below w4.heap.size w4 W5 := by rw [hW5]; exact (Below.refl _ w4).alloc (Nat.le_refl _) _
 have hg5 := hid (show W5.heap[w4.heap.size]? = some (.cells #[.int .i64 bk, .bool bneg, .slice bod bld bcd, .string bnm, .int .i64 bn, .slice bol bll bcl, .slice bob blb bcb] 27 (0, 0)) by rw [hW5]; exact heap_alloc_new w4 _)
 have bb5 : Below W3.heap.size W3 W5 := b4.trans (below_le b5 b4.size)
 have d5 := hid (below_and d3.out (Nat.le_refl _) bb5)
 have hV5 := hid (tmo_bel hV4 b5 (Nat.le_refl _))
 have bbH5 := hid bb5
 have c3 := c3H.out W5 d5.out
 have hW5H := hid hW5
 clear c2 hV4 b4 b5 bb5 hW5
 go_upto_region 7 with fail
 rw [← hW5H.out]
 clear hW5H
 go_wp2_with fail
 refine c3.mono ?_
 rintro e w6 ⟨v6, rfl, hV6, b6⟩
 obtain ⟨ck, cneg, cod, cld, ccd, cnm, cn, col, cll, ccl, cob, clb, ccb, rfl⟩ := tmo_form hV6
 obtain ⟨W7, hW7⟩ : ∃ W, W = w6.alloc (.cells #[.int .i64 ck, .bool cneg, .slice cod cld ccd, .string cnm, .int .i64 cn, .slice col cll ccl, .slice cob clb ccb] 27) := ⟨_, rfl⟩
 have b7 : Below w6.heap.size w6 W7 := by rw [hW7]; exact (Below.refl _ w6).alloc (Nat.le_refl _) _
 have hg7 := hid (show W7.heap[w6.heap.size]? = some (.cells #[.int .i64 ck, .bool cneg, .slice cod cld ccd, .string cnm, .int .i64 cn, .slice col cll ccl, .slice cob clb ccb] 27 (0, 0)) by rw [hW7]; exact heap_alloc_new w6 _)
 have bb7 : Below W5.heap.size W5 W7 := b6.trans (below_le b7 b6.size)
 have d7 := hid (below_and d5.out (Nat.le_refl _) bb7)
 have hV7 := hid (tmo_bel hV6 b7 (Nat.le_refl _))
 have bbH7 := hid bb7
 have c4 := c4H.out W7 d7.out
 have hW7H := hid hW7
 clear c3 hV6 b6 b7 bb7 hW7
 go_upto_region 8 with fail
 rw [← hW7H.out]
 clear hW7H
 go_wp2_with fail
 refine c4.mono ?_
 rintro e w8 ⟨v8, rfl, hV8, b8⟩
 obtain ⟨dk, dneg, dod, dld, dcd, dnm, dn, dol, dll, dcl, dob, dlb, dcb, rfl⟩ := tmo_form hV8
 obtain ⟨W9, hW9⟩ : ∃ W, W = w8.alloc (.cells #[.int .i64 dk, .bool dneg, .slice dod dld dcd, .string dnm, .int .i64 dn, .slice dol dll dcl, .slice dob dlb dcb] 27) := ⟨_, rfl⟩
 have b9 : Below w8.heap.size w8 W9 := by rw [hW9]; exact (Below.refl _ w8).alloc (Nat.le_refl _) _
 have hg9 := hid (show W9.heap[w8.heap.size]? = some (.cells #[.int .i64 dk, .bool dneg, .slice dod dld dcd, .string dnm, .int .i64 dn, .slice dol dll dcl, .slice dob dlb dcb] 27 (0, 0)) by rw [hW9]; exact heap_alloc_new w8 _)
 have bb9 : Below W7.heap.size W7 W9 := b8.trans (below_le b9 b8.size)
 have d9 := hid (below_and d7.out (Nat.le_refl _) bb9)
 have hV9 := hid (tmo_bel hV8 b9 (Nat.le_refl _))
 have bbH9 := hid bb9
 skip
 have hW9H := hid hW9
 clear c4 hV8 b8 b9 bb9 hW9
 go_upto_region 9 with fail
 rw [← hW9H.out]
 clear hW9H
 have e39 : Below W3.heap.size W3 W9 := below_and (below_and bbH5.out (Nat.le_refl _) bbH7.out) (Nat.le_refl _) bbH9.out
 have e59 : Below W5.heap.size W5 W9 := below_and bbH7.out (Nat.le_refl _) bbH9.out
 have q3 := (e39.block _ (zge.1 hg3.out).1).trans hg3.out
 have q5 := (e59.block _ (zge.1 hg5.out).1).trans hg5.out
 have q7 := (bbH9.out.block _ (zge.1 hg7.out).1).trans hg7.out
 have q9 := hg9.out
 have T3 := gT_tv (tmo_bel hV3.out e39 (Nat.le_refl _))
 have T5 := gT_tv (tmo_bel hV5.out e59 (Nat.le_refl _))
 have T7 := hid (tmo_bel hV7.out bbH9.out (Nat.le_refl _))
 have T9 := hV9
 have cA := c5H.out _ _ W9 d9.out T3 T5
 have q3H := hid q3
 have q5H := hid q5
 have q7H := hid q7
 have q9H := hid q9
 obtain ⟨x0, x1, x2, x3, x4, x5, x6⟩ := cell7 q3
 obtain ⟨y0, y1, y2, y3, y4, y5, y6⟩ := cell7 q5
 clear T3 T5 q3 q5 q7 q9 e39 e59
 go_wp2_with fail
 refine cA.mono ?_
 rintro e wA ⟨rfl, bA⟩
 have dA := hid (below_and d9.out (Nat.le_refl _) bA)
 have cB := c6H.out _ _ wA dA.out (gT_tv (tmo_bel T7.out bA (Nat.le_refl _))) (gT_tv (tmo_bel T9.out bA (Nat.le_refl _)))
 obtain ⟨u0, u1, u2, u3, u4, u5, u6⟩ := cell7 ((bA.block _ (zge.1 q7H.out).1).trans q7H.out)
 obtain ⟨z0, z1, z2, z3, z4, z5, z6⟩ := cell7 ((bA.block _ (zge.1 q9H.out).1).trans q9H.out)
 clear cA bA x0 x1 x2 x3 x4 x5 x6 y0 y1 y2 y3 y4 y5 y6
 go_wp2_with fail
 refine cB.mono ?_
 rintro e wB ⟨rfl, bB⟩
 have dB := hid (below_and dA.out (Nat.le_refl _) bB)
 clear cB bB
 go_wp2
 go_ret
 exact ⟨by simp, dB.out⟩
end Go.Proofs.YtlojfmlaookpmaaGreatDoor.textReads
