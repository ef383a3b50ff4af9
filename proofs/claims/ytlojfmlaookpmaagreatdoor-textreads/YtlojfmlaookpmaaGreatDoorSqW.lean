/- Texts of mine, one behind the other: TextRfD, TextRfE. -/
import Derived.Test.YtlojfmlaookpmaaGreatDoorSqV
set_option linter.unusedSimpArgs false
set_option linter.unusedVariables false
set_option maxRecDepth 2000
open Array renaming getElem?_eq_some_iff → zge
namespace Go.Proofs.YtlojfmlaookpmaaGreatDoor
open Go.ChangeShapes Go.WideShapes Go.ChangeAt Go.RowKit Go.Shelf
set_option maxHeartbeats 8000000 in
theorem term_stepB (g : Nat) (s : List UInt8) (i : Nat) (hs : s.length ≤ 3000) (hi : i ≤ s.length) (hv : Lib.validD (s.drop i) = true) (ht : ∀ i', i < i' → i' ≤ s.length → Lib.validD (s.drop i') = true → TermC g s i') (hD0 : ∀ b, s[i]? = some b → (b == 45 || digB b) = false) : TermC g s i := by
 intro n w h hn hTb
 have hgw := h.lt
 obtain ⟨W1, hW1⟩ : ∃ W1, W1 = (w.setCell ⟨g, 3, none⟩ (.int .i64 ((n : Int) + 1))).alloc (.cells zr7 27) := ⟨_, rfl⟩
 have hsS : (w.setCell ⟨g, 3, none⟩ (.int .i64 ((n : Int) + 1))).heap.size = w.heap.size := (only_set w g 3 _).2.1
 have bW0 : Below w.heap.size (w.setCell ⟨g, 3, none⟩ (.int .i64 ((n : Int) + 1))) W1 := by rw [hW1, ← hsS]; exact (Below.refl _ _).alloc (Nat.le_refl _) _
 have hT1 : TmB g s i n w W1 := by
   refine ⟨?_, ?_, ?_⟩
   · have := (h.set3 (n + 1)).below (w' := W1) (by rw [(only_set w g 3 _).2.1]; simpa using bW0)
     exact this
   · exact (Kpt.of_set (F := fun q => q = g) w (p := ⟨g, 3, none⟩) rfl (.int .i64 ((n : Int) + 1))).trans (Kpt.of_below (by rw [hsS]; exact bW0))
   · rw [hW1]
     have := heap_alloc_new (w.setCell ⟨g, 3, none⟩ (.int .i64 ((n : Int) + 1))) (.cells zr7 27)
     rw [hsS] at this
     exact this
 obtain ⟨y0, y1, y2, y3, f1, f2, f3⟩ := h.cells
 have z3 := hT1.rd.cells.2.2.2.1
 have z30 : (w.setCell ⟨g, 3, none⟩ (.int .i64 ((n : Int) + 1))).cell? ⟨g, 3, none⟩ = some (.int .i64 ((n : Int) + 1)) := by have := (h.set3 (n + 1)).cells.2.2.2.1; simpa using this
 rw [hW1] at z3
 have hnn : ((n + 1 : Nat) : Int) = (n : Int) + 1 := by omega
 rw [hnn] at z3
 obtain ⟨S, hS⟩ : ∃ S, bs s = S := ⟨_, rfl⟩
 have hsz : S.size = s.length := by rw [← hS]; exact bs_size s
 rw [hS] at y0
 have hSH := hid hS
 have hn3 : (n : Int) ≤ 3000 := by omega
 have hnf : ((65536 : Int) < (n : Int) + 1) = False := by simp only [eq_iff_iff, iff_false]; omega
 have hS3 : (S.size : Int) ≤ 3000 := by omega
 have hi3 : (i : Int) ≤ 3000 := by omega
 have htH := hid ht
 have hTH := hid hTb
 have hvH := hid hv
 have hW1H := hid hW1
 have hszH := hid hsz
 have hT1H := hid hT1
 clear h hW1 bW0 ht hTb hv hS hsz hT1 hnn
 go_enter Tryz.func17, Tryz.ntmps17
 go_upto_region 4 with fail
 rw [← hW1H.out]
 clear hW1H y0 y1 y2 y3 f1 f2 f3 z3 z30 hsS
 obtain ⟨y0, y1, y2, y3, f1, f2, f3⟩ := hT1H.out.rd.cells
 rw [hSH.out] at y0
 by_cases hlt : i < s.length
 · have hge : ((S.size : Int) ≤ (i : Int)) = False := by have := hszH.out; simp only [eq_iff_iff, iff_false]; omega
   obtain ⟨b, hb⟩ : ∃ b, s[i]? = some b := ⟨s[i], by simp [hlt]⟩
   have hix : ∀ w', (Instr.index 9 (.string S) (.int .i64 (i : Int))).run Tryz.prog w' = .ok (.int .u8 (b.toNat : Int)) w' := fun w' => by
     rw [← hSH.out]; exact idx_run s i b hb w'
   have hbH := hid hb
   clear hb
   go_quiet (fail)
   generalize hWq : World.drewN W1 _ = wq
   have bq : Below W1.heap.size W1 wq := by rw [← hWq]; exact below_drewNv (Below.refl _ _) _
   have hTq : TmB g s i n w wq := ⟨hT1H.out.rd.below bq, (hT1H.out.on hgw (Kpt.of_below bq)).1, (hT1H.out.on hgw (Kpt.of_below bq)).2⟩
   clear hWq bq y0 y1 y2 y3 f1 f2 f3
   obtain ⟨y0, y1, y2, y3, f1, f2, f3⟩ := hTq.rd.cells
   rw [hSH.out] at y0
   go_upto_region 7 with fail
   go_quiet (fail)
   generalize hWq : World.drewN wq _ = wb
   have bq : Below wq.heap.size wq wb := by rw [← hWq]; exact below_drewNv (Below.refl _ _) _
   have hB : TmB g s i n w wb := ⟨hTq.rd.below bq, (hTq.on hgw (Kpt.of_below bq)).1, (hTq.on hgw (Kpt.of_below bq)).2⟩
   have hBH := hid hB
   clear hWq bq y0 y1 y2 y3 f1 f2 f3 hTq hT1H hix hge
   obtain ⟨y0, y1, y2, y3, f1, f2, f3⟩ := hB.rd.cells
   rw [hSH.out] at y0
   clear hB
   obtain ⟨DD, hDD⟩ : ∃ DD, (b == 45 || digB b) = DD := ⟨_, rfl⟩
   have hDDH := hid hDD
   go_upto_region 8 with fail
   go_cut [53] from 54 to 63 (fun v wx => v = .bool DD ∧ wx = wb)
   case first =>
     have h45 : b = 45 ↔ b.toNat = 45 := by
       constructor
       · intro e; rw [e]; rfl
       · intro e; exact UInt8.toNat_inj.1 e
     rw [dig_ge] at hDD
     have h45b : (b == 45) = decide (b.toNat = 45) := by
       by_cases h : b = 45
       · rw [decide_eq_true (h45.1 h), h]; rfl
       · rw [decide_eq_false (fun e => h (h45.2 e))]; exact beq_eq_false_iff_ne.2 h
     rw [h45b] at hDD
     clear h45 h45b hDDH
     generalize b.toNat = bn at *
     by_cases q1 : bn = 45
     · have z1 : ((bn : Int) == 45) = true := by rw [q1]; rfl
       have z2 : DD = true := by rw [← hDD, decide_eq_true q1]; rfl
       subst z2
       clear hDD q1
       go_wp2_with fail
       go_meet
       exact ⟨rfl, rfl⟩
     · have z1 : ((bn : Int) == 45) = false := by rw [beq_eq_false_iff_ne]; omega
       rw [decide_eq_false q1, Bool.false_or] at hDD
       by_cases q2 : (48 : Int) ≤ (bn : Int)
       · by_cases q3 : (bn : Int) ≤ 57
         · have z2 : DD = true := by rw [← hDD, decide_eq_true q2, decide_eq_true q3]; rfl
           subst z2
           clear hDD q1
           go_wp2_with fail
           go_meet
           exact ⟨rfl, rfl⟩
         · have z3 : ((bn : Int) ≤ 57) = False := by simp only [q3]
           have z2 : DD = false := by rw [← hDD, decide_eq_false q3]; simp
           subst z2
           clear hDD q1 q3
           go_wp2_with fail
           go_meet
           exact ⟨rfl, rfl⟩
       · have z3 : ((48 : Int) ≤ (bn : Int)) = False := by simp only [q2]
         have z2 : DD = false := by rw [← hDD, decide_eq_false q2]; simp
         subst z2
         clear hDD q1 q2
         go_wp2_with fail
         go_meet
         exact ⟨rfl, rfl⟩
   case rest =>
     obtain ⟨rfl, rfl⟩ := hcut
     clear hDD
     cases DD with
     | true =>
       have := hD0 b hbH.out
       rw [hDDH.out] at this
       cases this
     | false =>
       have hDn := hDDH.out
       rw [Bool.or_eq_false_iff] at hDn
       have hrc : Hid (∀ c, skB c (s.drop i) = (b == c)) := hid (fun c => by rw [drop_cons hbH.out, skB_cons])
       have c1 := isA g s i false (n + 1) 35 (by omega) hi wc hBH.out.rd
       rw [show bs [35] = ⟨#[35]⟩ from rfl, hrc.out 35] at c1
       clear y0 y1 y2 y3 f1 f2 f3
       obtain ⟨B1, hB1⟩ : ∃ B, (!false && (b == 35)) = B := ⟨_, rfl⟩
       rw [hB1] at c1
       go_wp2_with fail
       refine c1.mono ?_
       rintro e wA ⟨rfl, hRA, hKA⟩
       cases B1 with
       | true =>
         have hbe : b = 35 := by simpa using hB1
         subst hbe
         have hRA' : RRf g s (i + 1) false (n + 1) wA := by simpa using hRA
         have hd := num_end (s := s) (i := i) hlt
         have hrd := read_ref hbH.out
         unfold refL at hrd
         have c2 := rnumber_w g s (i + 1) (n + 1) 1073741824 (by omega) hlt wA hRA'
         obtain ⟨D, hD⟩ : ∃ D, (s.drop (i + 1)).takeWhile digB = D := ⟨_, rfl⟩
         rw [hD] at c2 hd hrd
         obtain ⟨N, hN⟩ : ∃ N, nmN 1073741824 D = N := ⟨_, rfl⟩
         obtain ⟨NB, hNB⟩ : ∃ N, nmB 1073741824 D = N := ⟨_, rfl⟩
         rw [hN, hNB] at c2 hrd
         rw [← hd.1] at hrd
         obtain ⟨hKA2, hRBA⟩ := hBH.out.on hgw hKA
         have hdH := hid hd
         have hrdH := hid hrd
         clear c1 hRA hKA hRA' hd hrd hD hN hNB hB1
         go_wp2_with fail
         refine c2.mono ?_
         rintro e w4 ⟨rfl, hR4, hK4⟩
         have hRW := hid hR4
         have hKW := hid (hKA2.trans hK4)
         have hRB := (hK4.block _ (zge.1 hRBA).1 (by omega)).trans hRBA
         clear c2 hR4 hK4 hRBA hKA2
         obtain ⟨e0, e1, e2, e3, e4, e5, e6⟩ := cell7 hRB
         have efr : ∀ j, w4.frozen? ⟨w.heap.size, j, none⟩ = false := (res7 hRB).fr
         have hp7 := heap_put7 hRB (.int .i64 2) (.bool false) nilS (.string noS) (.int .i64 N) nilS nilS
         have hon := only_put w4 w.heap.size (.int .i64 2) (.bool false) nilS (.string noS) (.int .i64 N) nilS nilS
         obtain ⟨q0, q1, q2, q3, q4, q5, q6⟩ := cell7 hp7
         have hFin := hid (rdo_fin (w := w) (T := numT 2 N) (tv_flatZ 2 noS N) (Nat.le_refl _) hRW.out hKW.out hgw hon)
         clear hp7 hon
         go_wp2
         exact bodyPost_ret (v := tmV 2 false nilS noS N nilS nilS) (by simp [results, Tryz.results17, go_sem, q0, q1, q2, q3, q4, q5, q6]) rfl ⟨⟨_, numT 2 N, i + 1 + D.length, !NB, n + 1, rfl, hFin.out, hdH.out.2, fun h0 => (by
           have hn2 : NB = true := by cases NB with | true => rfl | false => cases h0
           rw [hrdH.out, hn2]
           exact ⟨rfl, rfl, by omega, by omega⟩), fun h0 => (by
           have hn2 : NB = false := by cases NB with | false => rfl | true => cases h0
           rw [hrdH.out, hn2]
           exact badO_none)⟩⟩
       | false =>
         have hRA' : RRf g s i false (n + 1) wA := by simpa using hRA
         have n35 : b ≠ 35 := fun e => by rw [e] at hB1; simp at hB1
         obtain ⟨hKA2, hRBA⟩ := hBH.out.on hgw hKA
         have hBA : TmB g s i n w wA := ⟨hRA', hKA2, hRBA⟩
         have hBAH := hid hBA
         have c2 := is_w g s i (n + 1) [60, 60] (by omega) hi wA hRA'
         rw [show bs [60, 60] = ⟨#[60, 60]⟩ from rfl, pre_lt hbH.out] at c2
         obtain ⟨B2, hB2⟩ : ∃ B, (b == 60 && skB 60 (s.drop (i + 1))) = B := ⟨_, rfl⟩
         rw [hB2] at c2
         clear c1 hRA hKA hRA' hB1 hKA2 hRBA hBA
         go_wp2_with fail
         refine c2.mono ?_
         rintro e wB ⟨rfl, hRB', hKB⟩
         obtain ⟨hKB2, hRBB⟩ := hBAH.out.on hgw hKB
         cases B2 with
         | true =>
           rw [Bool.and_eq_true] at hB2
           have hbe : b = 60 := eq_of_beq hB2.1
           subst hbe
           have hd := drop_skR hB2.2
           have hR2 : RRf g s (i + 2) false (n + 1) wB := by simpa using hRB'
           have hrd := hid (read_bin hbH.out hB2.2)
           have c3 := rbin_w g s (i + 2) (n + 1) hs (by omega) wB hR2
           clear c2 hB2 hRB' hd hR2 hKB
           go_wp2_with fail
           refine c3.mono ?_
           rintro e w4 ⟨⟨v, T, i4, b4, rfl, hO, hi4, hg4, hb4⟩⟩
           obtain ⟨xk, xneg, xod, xld, xcd, xnm, xn, xol, xll, xcl, xob, xlb, xcb, rfl⟩ := hO.tv.form
           have hRW := hid hO.rd
           have hKW := hid (hKB2.trans hO.kp)
           have hRB := (hO.kp.block _ (zge.1 hRBB).1 (by omega)).trans hRBB
           have hTW := hid hO.tv
           have hSW : w.heap.size + 1 ≤ wB.heap.size := (zge.1 hRBB).1
           have hgH := hid hg4
           have hbH4 := hid hb4
           clear c3 hO hKB2 hRBB hg4 hb4
           obtain ⟨e0, e1, e2, e3, e4, e5, e6⟩ := cell7 hRB
           have efr : ∀ j, w4.frozen? ⟨w.heap.size, j, none⟩ = false := (res7 hRB).fr
           have hp7 := heap_put7 hRB (.int .i64 xk) (.bool xneg) (.slice xod xld xcd) (.string xnm) (.int .i64 xn) (.slice xol xll xcl) (.slice xob xlb xcb)
           have hon := only_put w4 w.heap.size (.int .i64 xk) (.bool xneg) (.slice xod xld xcd) (.string xnm) (.int .i64 xn) (.slice xol xll xcl) (.slice xob xlb xcb)
           obtain ⟨q0, q1, q2, q3, q4, q5, q6⟩ := cell7 hp7
           have hFin := hid (rdo_fin (w := w) hTW.out hSW hRW.out hKW.out hgw hon)
           clear hp7 hon
           go_wp2
           exact bodyPost_ret (v := tmV xk xneg (.slice xod xld xcd) xnm xn (.slice xol xll xcl) (.slice xob xlb xcb)) (by simp [results, Tryz.results17, go_sem, q0, q1, q2, q3, q4, q5, q6]) rfl ⟨⟨_, T, i4, b4, n + 1, rfl, hFin.out, hi4, fun h0 => (by
             have := hgH.out h0
             rw [hrd.out, this.1]
             exact ⟨rfl, rfl, by omega, by omega⟩), fun h0 => (by
             rw [hrd.out, hbH4.out h0]
             exact badO_none)⟩⟩
         | false =>
           have hR2 : RRf g s i false (n + 1) wB := by simpa using hRB'
           have hBB := hid (⟨hR2, hKB2, hRBB⟩ : TmB g s i n w wB)
           have c3 := isA g s i false (n + 1) 60 (by omega) hi wB hR2
           rw [show bs [60] = ⟨#[60]⟩ from rfl, hrc.out 60] at c3
           obtain ⟨B3, hB3⟩ : ∃ B, (!false && (b == 60)) = B := ⟨_, rfl⟩
           rw [hB3] at c3
           clear c2 hRB' hKB hR2 hKB2 hRBB
           go_wp2_with fail
           refine c3.mono ?_
           rintro e wC ⟨rfl, hRC, hKC⟩
           obtain ⟨hKC2, hRBC⟩ := hBB.out.on hgw hKC
           cases B3 with
           | true =>
             have hbe : b = 60 := by simpa using hB3
             subst hbe
             have h60 : skB 60 (s.drop (i + 1)) = false := by simpa using hB2
             have hRC' : RRf g s (i + 1) false (n + 1) wC := by simpa using hRC
             have hd := num_end (s := s) (i := i) hlt
             have hrd := read_pid hbH.out h60
             unfold pidL at hrd
             have c4 := rnumber_w g s (i + 1) (n + 1) 1073741824 (by omega) hlt wC hRC'
             obtain ⟨D, hD⟩ : ∃ D, (s.drop (i + 1)).takeWhile digB = D := ⟨_, rfl⟩
             rw [hD] at c4 hd hrd
             obtain ⟨N, hN⟩ : ∃ N, nmN 1073741824 D = N := ⟨_, rfl⟩
             obtain ⟨NB, hNB⟩ : ∃ N, nmB 1073741824 D = N := ⟨_, rfl⟩
             rw [hN, hNB] at c4 hrd
             rw [← hd.1] at hrd
             obtain ⟨j, hj⟩ : ∃ j, i + 1 + D.length = j := ⟨_, rfl⟩
             rw [hj] at c4 hd hrd
             have hij : i + 1 ≤ j := by omega
             have hdH := hid hd.2
             have hrdH := hid hrd
             clear c3 hRC hKC hRC' hd hrd hD hN hNB hB3 hB2 h60
             go_wp2_with fail
             refine c4.mono ?_
             rintro e w4 ⟨rfl, hR4, hK4⟩
             obtain ⟨W5, hW5⟩ : ∃ W5, W5 = w4.alloc (.cells #[.int .i64 3, .bool false, .slice none 0 0, .string ⟨#[]⟩, .int .i64 N, .slice none 0 0, .slice none 0 0] 27) := ⟨_, rfl⟩
             have b5 : Below w4.heap.size w4 W5 := by rw [hW5]; exact (Below.refl _ _).alloc (Nat.le_refl _) _
             have hbt5 : W5.heap[w4.heap.size]? = some (.cells #[.int .i64 3, .bool false, .slice none 0 0, .string ⟨#[]⟩, .int .i64 N, .slice none 0 0, .slice none 0 0] 27 (0, 0)) := by rw [hW5]; exact heap_alloc_new w4 _
             have hR5 := hid (hR4.below b5)
             have hK5 := hid ((hKC2.trans hK4).trans (Kpt.of_below b5))
             have hRB5 := (b5.block _ (by have := (zge.1 hRBC).1; have := hK4.size; omega)).trans ((hK4.block _ (zge.1 hRBC).1 (by omega)).trans hRBC)
             have hgt5 : w.heap.size + 1 ≤ w4.heap.size := by have := (zge.1 hRBC).1; have := hK4.size; omega
             have hend : Hid (∀ (W : World) (j' : Nat) (bb : Bool), RRf g s j' bb (n + 1) W → Kpt (fun q => q = g) W5 W → W.heap[w.heap.size]? = some (.cells zr7 27 (0, 0)) ∧ W.heap[w4.heap.size]? = some (.cells #[.int .i64 3, .bool false, .slice none 0 0, .string ⟨#[]⟩, .int .i64 N, .slice none 0 0, .slice none 0 0] 27 (0, 0)) ∧ Kpt (fun q => q = g) w W) := hid (fun W j' bb hR hK => ⟨(hK.block _ (zge.1 hRB5).1 (by omega)).trans hRB5, (hK.block _ (zge.1 hbt5).1 (by omega)).trans hbt5, hK5.out.trans hK⟩)
             have hW5H := hid hW5
             clear c4 hR4 hK4 hKC2 hRBC hW5 b5 hRB5 hbt5
             go_upto_region 21 with fail
             rw [← hW5H.out]
             clear hW5H
             generalize w4.heap.size = gt at *
             obtain ⟨y0, y1, y2, y3, f1, f2, f3⟩ := hR5.out.cells
             cases NB with
             | false =>
               obtain ⟨W3, hW3⟩ : ∃ W3, W3 = W5.setCell ⟨g, 2, none⟩ (.bool true) := ⟨_, rfl⟩
               have hR3 : RRf g s j true (n + 1) W3 := by rw [hW3]; exact hR5.out.set2 true
               have hK3 : Kpt (fun q => q = g) W5 W3 := by rw [hW3]; exact Kpt.of_set (F := fun q => q = g) W5 (p := ⟨g, 2, none⟩) rfl _
               have hW3H := hid hW3
               have hle : j ≤ s.length := hdH.out
               clear hW3
               go_upto_region 22 with fail
               rw [← hW3H.out]
               obtain ⟨hRB, hBT, hKW0⟩ := hend.out W3 j true hR3 hK3
               have hRW := hid hR3
               have hKW := hid hKW0
               clear hKW0 y0 y1 y2 y3 f1 f2 f3 hR3 hK3
               obtain ⟨x0, x1, x2, x3, x4, x5, x6⟩ := cell7 hBT
               obtain ⟨e0, e1, e2, e3, e4, e5, e6⟩ := cell7 hRB
               have efr : ∀ j, W3.frozen? ⟨w.heap.size, j, none⟩ = false := (res7 hRB).fr
               have hp7 := heap_put7 hRB (.int .i64 3) (.bool false) nilS (.string noS) (.int .i64 N) nilS nilS
               have hon := only_put W3 w.heap.size (.int .i64 3) (.bool false) nilS (.string noS) (.int .i64 N) nilS nilS
               obtain ⟨q0, q1, q2, q3, q4, q5, q6⟩ := cell7 hp7
               have hFin := hid (rdo_fin (w := w) (T := numT 3 N) (tv_flatZ 3 noS N) (Nat.le_refl _) hRW.out hKW.out hgw hon)
               clear hp7 hon
               go_wp2
               exact bodyPost_ret (v := tmV 3 false nilS noS N nilS nilS) (by simp [results, Tryz.results17, go_sem, q0, q1, q2, q3, q4, q5, q6]) rfl ⟨⟨_, numT 3 N, j, true, n + 1, rfl, hFin.out, hle, fun h0 => (by cases h0), fun _ => (by rw [hrdH.out]; exact badO_none)⟩⟩
             | true =>
               have c5 := isA g s j false (n + 1) 62 (by omega) hdH.out W5 hR5.out
               rw [show bs [62] = ⟨#[62]⟩ from rfl] at c5
               obtain ⟨B6, hB6⟩ : ∃ B, (!false && skB 62 (s.drop j)) = B := ⟨_, rfl⟩
               rw [hB6] at c5
               have hB6H : Hid (skB 62 (s.drop j) = B6) := hid (by simpa using hB6)
               clear hB6
               go_wp2_with fail
               refine c5.mono ?_
               rintro e w9 ⟨rfl, hR9, hK9⟩
               clear c5 y0 y1 y2 y3 f1 f2 f3
               obtain ⟨y0, y1, y2, y3, f1, f2, f3⟩ := hR9.cells
               obtain ⟨W3, hW3⟩ : ∃ W3, W3 = w9.setCell ⟨g, 2, none⟩ (.bool (!B6)) := ⟨_, rfl⟩
               have hR3 : RRf g s (if B6 = true then j + 1 else j) (!B6) (n + 1) W3 := by rw [hW3]; exact hR9.set2 _
               have hK3 : Kpt (fun q => q = g) W5 W3 := by rw [hW3]; exact hK9.trans (Kpt.of_set (F := fun q => q = g) w9 (p := ⟨g, 2, none⟩) rfl _)
               have hle : (if B6 = true then j + 1 else j) ≤ s.length := by
                 cases B6 with
                 | true => have := (drop_skR hB6H.out).2; simp; omega
                 | false => exact hdH.out
               have hfin : Hid (((!B6) = false → (readL (s.drop i)).1 = some (numT 3 N) ∧ (readL (s.drop i)).2 = s.drop (if B6 = true then j + 1 else j) ∧ n + 1 ≤ (if B6 = true then j + 1 else j) ∧ i < (if B6 = true then j + 1 else j)) ∧ ((!B6) = true → badO (readL (s.drop i)).1)) := hid (by
                 rw [hrdH.out]
                 simp only [if_true]
                 cases B6 with
                 | true =>
                   refine ⟨fun _ => ⟨by rw [if_pos hB6H.out], (drop_skR hB6H.out).1.symm, ?_, ?_⟩, fun h => (by cases h)⟩
                   · simp; omega
                   · simp; omega
                 | false =>
                   refine ⟨fun h => (by cases h), fun _ => ?_⟩
                   rw [if_neg (by rw [hB6H.out]; simp)]
                   exact badO_none)
               clear hR9 hK9
               have hW3H := hid hW3
               clear hW3
               cases B6 with
               | true =>
                 have hW3H := hid (show W3 = w9.setCell ⟨g, 2, none⟩ (.bool false) from hW3H.out)
                 go_upto_region 22 with fail
                 rw [← hW3H.out]
                 obtain ⟨hRB, hBT, hKW0⟩ := hend.out W3 _ _ hR3 hK3
                 have hRW := hid hR3
                 have hKW := hid hKW0
                 clear hKW0 y0 y1 y2 y3 f1 f2 f3 hR3 hK3
                 obtain ⟨x0, x1, x2, x3, x4, x5, x6⟩ := cell7 hBT
                 obtain ⟨e0, e1, e2, e3, e4, e5, e6⟩ := cell7 hRB
                 have efr : ∀ j, W3.frozen? ⟨w.heap.size, j, none⟩ = false := (res7 hRB).fr
                 have hp7 := heap_put7 hRB (.int .i64 3) (.bool false) nilS (.string noS) (.int .i64 N) nilS nilS
                 have hon := only_put W3 w.heap.size (.int .i64 3) (.bool false) nilS (.string noS) (.int .i64 N) nilS nilS
                 obtain ⟨q0, q1, q2, q3, q4, q5, q6⟩ := cell7 hp7
                 have hFin := hid (rdo_fin (w := w) (T := numT 3 N) (tv_flatZ 3 noS N) (Nat.le_refl _) hRW.out hKW.out hgw hon)
                 clear hp7 hon
                 go_wp2
                 exact bodyPost_ret (v := tmV 3 false nilS noS N nilS nilS) (by simp [results, Tryz.results17, go_sem, q0, q1, q2, q3, q4, q5, q6]) rfl ⟨⟨_, numT 3 N, _, _, n + 1, rfl, hFin.out, hle, hfin.out.1, hfin.out.2⟩⟩
               | false =>
                 have hW3H := hid (show W3 = w9.setCell ⟨g, 2, none⟩ (.bool true) from hW3H.out)
                 go_upto_region 22 with fail
                 rw [← hW3H.out]
                 obtain ⟨hRB, hBT, hKW0⟩ := hend.out W3 _ _ hR3 hK3
                 have hRW := hid hR3
                 have hKW := hid hKW0
                 clear hKW0 y0 y1 y2 y3 f1 f2 f3 hR3 hK3
                 obtain ⟨x0, x1, x2, x3, x4, x5, x6⟩ := cell7 hBT
                 obtain ⟨e0, e1, e2, e3, e4, e5, e6⟩ := cell7 hRB
                 have efr : ∀ j, W3.frozen? ⟨w.heap.size, j, none⟩ = false := (res7 hRB).fr
                 have hp7 := heap_put7 hRB (.int .i64 3) (.bool false) nilS (.string noS) (.int .i64 N) nilS nilS
                 have hon := only_put W3 w.heap.size (.int .i64 3) (.bool false) nilS (.string noS) (.int .i64 N) nilS nilS
                 obtain ⟨q0, q1, q2, q3, q4, q5, q6⟩ := cell7 hp7
                 have hFin := hid (rdo_fin (w := w) (T := numT 3 N) (tv_flatZ 3 noS N) (Nat.le_refl _) hRW.out hKW.out hgw hon)
                 clear hp7 hon
                 go_wp2
                 exact bodyPost_ret (v := tmV 3 false nilS noS N nilS nilS) (by simp [results, Tryz.results17, go_sem, q0, q1, q2, q3, q4, q5, q6]) rfl ⟨⟨_, numT 3 N, _, _, n + 1, rfl, hFin.out, hle, hfin.out.1, hfin.out.2⟩⟩
           | false =>
             have hR3 : RRf g s i false (n + 1) wC := by simpa using hRC
             have n60 : b ≠ 60 := fun e => by rw [e] at hB3; simp at hB3
             have hBC := hid (⟨hR3, hKC2, hRBC⟩ : TmB g s i n w wC)
             have c4 := isA g s i false (n + 1) 123 (by omega) hi wC hR3
             rw [show bs [123] = ⟨#[123]⟩ from rfl, hrc.out 123] at c4
             obtain ⟨B4, hB4⟩ : ∃ B, (!false && (b == 123)) = B := ⟨_, rfl⟩
             rw [hB4] at c4
             clear c3 hRC hKC hR3 hKC2 hRBC
             go_wp2_with fail
             refine c4.mono ?_
             rintro e wD ⟨rfl, hRD, hKD⟩
             obtain ⟨hKD2, hRBD⟩ := hBC.out.on hgw hKD
             cases B4 with
             | true =>
               have hbe : b = 123 := by simpa using hB4
               subst hbe
               have hRD' : RRf g s (i + 1) false (n + 1) wD := by simpa using hRD
               have hrd := hid (read_tup hbH.out)
               obtain ⟨W5, hW5⟩ : ∃ W5, W5 = wD.alloc (.cells #[.int .i64 4, .bool false, .slice none 0 0, .string ⟨#[]⟩, .int .i64 0, .slice none 0 0, .slice none 0 0] 27) := ⟨_, rfl⟩
               have b5 : Below wD.heap.size wD W5 := by rw [hW5]; exact (Below.refl _ _).alloc (Nat.le_refl _) _
               have hbt5 : W5.heap[wD.heap.size]? = some (.cells #[.int .i64 4, .bool false, .slice none 0 0, .string ⟨#[]⟩, .int .i64 0, .slice none 0 0, .slice none 0 0] 27 (0, 0)) := by rw [hW5]; exact heap_alloc_new wD _
               have hgt5 : w.heap.size + 1 ≤ wD.heap.size := (zge.1 hRBD).1
               have hR5 := hRD'.below b5
               have hK5 := hKD2.trans (Kpt.of_below b5)
               have hRB5 := (b5.block _ (zge.1 hRBD).1).trans hRBD
               have c5 := isA g s (i + 1) false (n + 1) 125 (by omega) hlt W5 hR5
               rw [show bs [125] = ⟨#[125]⟩ from rfl] at c5
               obtain ⟨B5, hB5⟩ : ∃ B, (!false && skB 125 (s.drop (i + 1))) = B := ⟨_, rfl⟩
               rw [hB5] at c5
               have hB5H : Hid (skB 125 (s.drop (i + 1)) = B5) := hid (by simpa using hB5)
               have hW5H := hid hW5
               clear c4 hB4 hRD hKD hRD' hKD2 hRBD hW5 b5 hB5
               go_upto_region 25 with fail
               rw [← hW5H.out]
               clear hW5H
               generalize wD.heap.size = gt at *
               go_wp2_with fail
               refine c5.mono ?_
               rintro e w6 ⟨rfl, hR6, hK6⟩
               have hRB6 := (hK6.block _ (zge.1 hRB5).1 (by omega)).trans hRB5
               have hbt6 := (hK6.block _ (zge.1 hbt5).1 (by omega)).trans hbt5
               have hKw6 := hK5.trans hK6
               cases B5 with
               | true =>
                 have hd2 := drop_skR hB5H.out
                 have hRW : Hid (RRf g s (i + 2) false (n + 1) w6) := hid (by simpa using hR6)
                 have hKW := hid hKw6
                 have hRB := hRB6
                 obtain ⟨x0, x1, x2, x3, x4, x5, x6⟩ := cell7 hbt6
                 have hle : i + 2 ≤ s.length := hd2.2
                 have hdH := hid hd2.1
                 clear c5 hR6 hK6 hRB6 hKw6 hbt6 hR5 hK5 hRB5 hbt5 hd2
                 obtain ⟨e0, e1, e2, e3, e4, e5, e6⟩ := cell7 hRB
                 have efr : ∀ j, w6.frozen? ⟨w.heap.size, j, none⟩ = false := (res7 hRB).fr
                 have hp7 := heap_put7 hRB (.int .i64 4) (.bool false) nilS (.string noS) (.int .i64 0) nilS nilS
                 have hon := only_put w6 w.heap.size (.int .i64 4) (.bool false) nilS (.string noS) (.int .i64 0) nilS nilS
                 obtain ⟨q0, q1, q2, q3, q4, q5, q6⟩ := cell7 hp7
                 have hFin := hid (rdo_fin (w := w) (T := tupT []) (tv_flatZ 4 noS 0) (Nat.le_refl _) hRW.out hKW.out hgw hon)
                 clear hp7 hon
                 go_wp2
                 exact bodyPost_ret (v := tmV 4 false nilS noS 0 nilS nilS) (by simp [results, Tryz.results17, go_sem, q0, q1, q2, q3, q4, q5, q6]) rfl ⟨⟨_, tupT [], i + 2, false, n + 1, rfl, hFin.out, hle, fun h0 => (by
                   rw [hrd.out, if_pos hB5H.out]
                   exact ⟨rfl, hdH.out.symm, by omega, by omega⟩), fun h0 => (by cases h0)⟩⟩
               | false =>
                 have hR6' : RRf g s (i + 1) false (n + 1) w6 := by simpa using hR6
                 have hv1 : Lib.validD (s.drop (i + 1)) = true := by
                   have := hvH.out
                   rw [drop_cons hbH.out, vd_asc _ (by decide)] at this
                   exact this
                 have c6 := items_w g s (i + 1) (n + 1) 125 (.inr rfl) hs hlt hv1 (fun i' h1 h2 h3 => htH.out i' (by omega) h2 h3) w6 hR6' (by omega) (fun w' hw' => hTH.out w' (hKw6.trans hw'))
                 have hgt6 : gt < w6.heap.size := (zge.1 hbt6).1
                 clear c5 hR6 hK6 hR5 hK5 hRB5 hbt5 hR6' hv1
                 go_wp2_with fail
                 refine c6.mono ?_
                 rintro e w7 ⟨⟨o, l, cp, i7, b7, n7, rfl, hI, hR7, hi7, hK7, hll, hl0, hg7, hb7⟩⟩
                 have hcp : l.length ≤ cp := by
                   obtain ⟨xs, hO, _⟩ := hI
                   obtain ⟨_, c', e, hc'⟩ := own_sl hO
                   simp only [Value.slice.injEq, true_and] at e
                   obtain ⟨_, rfl⟩ := e
                   exact hc'
                 have hTR7 := hI.tr
                 have hRB7 := (hK7.block _ (zge.1 hRB6).1 (by omega)).trans hRB6
                 have hbt7 := (hK7.block _ hgt6 (by omega)).trans hbt6
                 have hKw7 := hKw6.trans hK7
                 have hs7 := hK7.size
                 obtain ⟨W8, hW8⟩ : ∃ W8, W8 = w7.setCell ⟨gt, 5, none⟩ (.slice o l.length cp) := ⟨_, rfl⟩
                 have on8 := only_set w7 gt 5 (.slice o l.length cp)
                 rw [← hW8] at on8
                 have hbt8 : W8.heap[gt]? = some (.cells #[.int .i64 4, .bool false, .slice none 0 0, .string ⟨#[]⟩, .int .i64 0, .slice o l.length cp, .slice none 0 0] 27 (0, 0)) := by rw [hW8]; exact heap_setc hbt7 _
                 have hR8 : RRf g s i7 b7 n7 W8 := ⟨(on8.2.2 g (by omega)).trans hR7.at_⟩
                 have hK8 : Kpt (fun q => q = g) w W8 := only_kpt hKw7 on8 (by omega)
                 have hRB8 := (on8.2.2 w.heap.size (by omega)).trans hRB7
                 have hTR8 : TR (Zg7 (w.heap.size + 1) gt W8) W8 l o := TR.mono (fun q _ hq => ⟨by have := hq.1; omega, by rw [on8.2.1]; exact hq.2, by have := hq.1; omega⟩) _ _ (TR.zs (Z := Zb w6.heap.size w7) (fun q hq => on8.2.2 q (by have := hq.1; omega)) _ _ hTR7)
                 have hll4 : (l.length : Int) ≤ 4000 := by omega
                 have hend : Hid (∀ (W : World) (j' : Nat) (bb : Bool), RRf g s j' bb n7 W → Kpt (fun q => q = g) W8 W → W.heap[w.heap.size]? = some (.cells zr7 27 (0, 0)) ∧ W.heap[gt]? = some (.cells #[.int .i64 4, .bool false, .slice none 0 0, .string ⟨#[]⟩, .int .i64 0, .slice o l.length cp, .slice none 0 0] 27 (0, 0)) ∧ Kpt (fun q => q = g) w W ∧ TV (Zb (w.heap.size + 1) W) W (tupT l) (tmV 4 false nilS noS 0 (.slice o l.length cp) nilS)) := hid (fun W j' bb hR hK => by
                   refine ⟨(hK.block _ (zge.1 hRB8).1 (by omega)).trans hRB8, (hK.block _ (zge.1 hbt8).1 (by omega)).trans hbt8, hK8.trans hK, ?_⟩
                   unfold tupT TV
                   refine ⟨none, 0, o, cp, none, 0, rfl, Ls.nil _ _ _, Nat.le_refl _, Lm.nil _, LsB.nil _ _ _, Nat.le_refl _, hcp, ?_⟩
                   exact TR.mono (fun q _ hq => ⟨hq.1, Nat.lt_of_lt_of_le hq.2.1 hK.size⟩) _ _ (TR.zs (Z := Zg7 (w.heap.size + 1) gt W8) (fun q hq => hK.block q hq.2.1 (fun e => by have := hq.1; omega)) _ _ hTR8))
                 have hW8H := hid hW8
                 have hg7H := hid hg7
                 have hb7H := hid hb7
                 obtain ⟨t0, t1, t2, t3, t4, t5, t6⟩ := cell7 hbt7
                 have tfr : ∀ j, w7.frozen? ⟨gt, j, none⟩ = false := (res7 hbt7).fr
                 have hrdn : Hid (readL (s.drop i) = rowL ⟨125, [], false⟩ (s.drop (i + 1))) := hid (by rw [hrd.out, if_neg (by rw [hB5H.out]; simp)])
                 clear c6 hI hR7 hK7 hg7 hb7 hTR7 hRB7 hKw7 hKw6 hRB6 hbt6 on8 hW8 hcp
                 go_upto_region 28 with fail
                 rw [← hW8H.out]
                 clear hW8H t0 t1 t2 t3 t4 t5 t6 tfr hbt7
                 obtain ⟨y0, y1, y2, y3, f1, f2, f3⟩ := hR8.cells
                 obtain ⟨x0, x1, x2, x3, x4, x5, x6⟩ := cell7 hbt8
                 have hR8H := hid hR8
                 clear hR8 hK8 hRB8 hTR8
                 cases b7 with
                 | true =>
                   obtain ⟨W3, hW3⟩ : ∃ W3, W3 = W8.setCell ⟨g, 2, none⟩ (.bool true) := ⟨_, rfl⟩
                   have hR3 : RRf g s i7 true n7 W3 := by rw [hW3]; exact hR8H.out.set2 true
                   have hK3 : Kpt (fun q => q = g) W8 W3 := by rw [hW3]; exact Kpt.of_set (F := fun q => q = g) W8 (p := ⟨g, 2, none⟩) rfl _
                   have hW3H := hid hW3
                   clear hW3 hbt8
                   go_upto_region 29 with fail
                   rw [← hW3H.out]
                   obtain ⟨hRB, hBT, hKW0, hTW0⟩ := hend.out W3 _ _ hR3 hK3
                   have hRW := hid hR3
                   have hKW := hid hKW0
                   have hTW := hid hTW0
                   clear hKW0 hTW0 y0 y1 y2 y3 f1 f2 f3 hR3 hK3 x0 x1 x2 x3 x4 x5 x6
                   obtain ⟨x0, x1, x2, x3, x4, x5, x6⟩ := cell7 hBT
                   obtain ⟨e0, e1, e2, e3, e4, e5, e6⟩ := cell7 hRB
                   have efr : ∀ j, W3.frozen? ⟨w.heap.size, j, none⟩ = false := (res7 hRB).fr
                   have hp7 := heap_put7 hRB (.int .i64 4) (.bool false) nilS (.string noS) (.int .i64 0) (.slice o l.length cp) nilS
                   have hon := only_put W3 w.heap.size (.int .i64 4) (.bool false) nilS (.string noS) (.int .i64 0) (.slice o l.length cp) nilS
                   obtain ⟨q0, q1, q2, q3, q4, q5, q6⟩ := cell7 hp7
                   have hFin := hid (rdo_fin (w := w) (T := tupT l) hTW.out (Nat.le_refl _) hRW.out hKW.out hgw hon)
                   clear hp7 hon
                   go_wp2
                   exact bodyPost_ret (v := tmV 4 false nilS noS 0 (.slice o l.length cp) nilS) (by simp [results, Tryz.results17, go_sem, q0, q1, q2, q3, q4, q5, q6]) rfl ⟨⟨_, tupT l, i7, true, n7, rfl, hFin.out, hi7, fun h0 => (by cases h0), fun _ => (by rw [hrdn.out]; exact hb7H.out (by first | rfl | trivial))⟩⟩
                 | false =>
                   have c7 := isA g s i7 false n7 125 (by omega) hi7 W8 hR8H.out
                   rw [show bs [125] = ⟨#[125]⟩ from rfl] at c7
                   obtain ⟨B6, hB6⟩ : ∃ B, (!false && skB 125 (s.drop i7)) = B := ⟨_, rfl⟩
                   rw [hB6] at c7
                   have hB6H : Hid (skB 125 (s.drop i7) = B6) := hid (by simpa using hB6)
                   clear hB6
                   go_wp2_with fail
                   refine c7.mono ?_
                   rintro e w9 ⟨rfl, hR9, hK9⟩
                   have hbt9 := (hend.out w9 _ _ hR9 hK9).2.1
                   clear c7 y0 y1 y2 y3 f1 f2 f3 x0 x1 x2 x3 x4 x5 x6 hbt8
                   obtain ⟨y0, y1, y2, y3, f1, f2, f3⟩ := hR9.cells
                   obtain ⟨x0, x1, x2, x3, x4, x5, x6⟩ := cell7 hbt9
                   clear hbt9
                   obtain ⟨l0, T, e1, e2, e3, e4, e5, e6⟩ := hg7H.out (by first | rfl | trivial)
                   cases B6 with
                   | false =>
                     obtain ⟨W3, hW3⟩ : ∃ W3, W3 = w9.setCell ⟨g, 2, none⟩ (.bool true) := ⟨_, rfl⟩
                     have hR3 : RRf g s i7 true n7 W3 := by rw [hW3]; simpa using hR9.set2 true
                     have hK3 : Kpt (fun q => q = g) W8 W3 := by rw [hW3]; exact hK9.trans (Kpt.of_set (F := fun q => q = g) w9 (p := ⟨g, 2, none⟩) rfl _)
                     have hbad : Hid (badO (readL (s.drop i)).1) := hid (by rw [hrdn.out, e3, aft_tup_no hB6H.out e2]; exact badO_none)
                     have hW3H := hid hW3
                     clear hW3 hR9 hK9 e1 e2 e3 e4 e5 e6 l0 T
                     go_upto_region 29 with fail
                     rw [← hW3H.out]
                     obtain ⟨hRB, hBT, hKW0, hTW0⟩ := hend.out W3 _ _ hR3 hK3
                     have hRW := hid hR3
                     have hKW := hid hKW0
                     have hTW := hid hTW0
                     clear hKW0 hTW0 y0 y1 y2 y3 f1 f2 f3 hR3 hK3 x0 x1 x2 x3 x4 x5 x6
                     obtain ⟨x0, x1, x2, x3, x4, x5, x6⟩ := cell7 hBT
                     obtain ⟨e0, e1, e2, e3, e4, e5, e6⟩ := cell7 hRB
                     have efr : ∀ j, W3.frozen? ⟨w.heap.size, j, none⟩ = false := (res7 hRB).fr
                     have hp7 := heap_put7 hRB (.int .i64 4) (.bool false) nilS (.string noS) (.int .i64 0) (.slice o l.length cp) nilS
                     have hon := only_put W3 w.heap.size (.int .i64 4) (.bool false) nilS (.string noS) (.int .i64 0) (.slice o l.length cp) nilS
                     obtain ⟨q0, q1, q2, q3, q4, q5, q6⟩ := cell7 hp7
                     have hFin := hid (rdo_fin (w := w) (T := tupT l) hTW.out (Nat.le_refl _) hRW.out hKW.out hgw hon)
                     clear hp7 hon
                     go_wp2
                     exact bodyPost_ret (v := tmV 4 false nilS noS 0 (.slice o l.length cp) nilS) (by simp [results, Tryz.results17, go_sem, q0, q1, q2, q3, q4, q5, q6]) rfl ⟨⟨_, tupT l, i7, true, n7, rfl, hFin.out, hi7, fun h0 => (by cases h0), fun _ => hbad.out⟩⟩
                   | true =>
                     have hd7 := drop_skR hB6H.out
                     have hres : Hid (readL (s.drop i) = (some (tupT l), s.drop (i7 + 1))) := hid (by rw [hrdn.out, e3, aft_tup hB6H.out, ← e1, hd7.1])
                     have hle : i7 + 1 ≤ s.length := hd7.2
                     by_cases h255 : 255 < l.length
                     · have hz255 : (255 : Int) < (l.length : Int) := by omega
                       obtain ⟨W3, hW3⟩ : ∃ W3, W3 = w9.setCell ⟨g, 2, none⟩ (.bool true) := ⟨_, rfl⟩
                       have hR3 : RRf g s (i7 + 1) true n7 W3 := by rw [hW3]; simpa using hR9.set2 true
                       have hK3 : Kpt (fun q => q = g) W8 W3 := by rw [hW3]; exact hK9.trans (Kpt.of_set (F := fun q => q = g) w9 (p := ⟨g, 2, none⟩) rfl _)
                       have hbad : Hid (badO (readL (s.drop i)).1) := hid (by
                         rw [hres.out]
                         intro U hU
                         injection hU with hU
                         rw [← hU]
                         exact tup_long h255)
                       have hW3H := hid hW3
                       clear hW3 hR9 hK9 e1 e2 e3 e4 e5 e6 l0 T h255 hd7
                       go_upto_region 29 with fail
                       rw [← hW3H.out]
                       obtain ⟨hRB, hBT, hKW0, hTW0⟩ := hend.out W3 _ _ hR3 hK3
                       have hRW := hid hR3
                       have hKW := hid hKW0
                       have hTW := hid hTW0
                       clear hKW0 hTW0 y0 y1 y2 y3 f1 f2 f3 hR3 hK3 x0 x1 x2 x3 x4 x5 x6
                       obtain ⟨x0, x1, x2, x3, x4, x5, x6⟩ := cell7 hBT
                       obtain ⟨e0, e1, e2, e3, e4, e5, e6⟩ := cell7 hRB
                       have efr : ∀ j, W3.frozen? ⟨w.heap.size, j, none⟩ = false := (res7 hRB).fr
                       have hp7 := heap_put7 hRB (.int .i64 4) (.bool false) nilS (.string noS) (.int .i64 0) (.slice o l.length cp) nilS
                       have hon := only_put W3 w.heap.size (.int .i64 4) (.bool false) nilS (.string noS) (.int .i64 0) (.slice o l.length cp) nilS
                       obtain ⟨q0, q1, q2, q3, q4, q5, q6⟩ := cell7 hp7
                       have hFin := hid (rdo_fin (w := w) (T := tupT l) hTW.out (Nat.le_refl _) hRW.out hKW.out hgw hon)
                       clear hp7 hon
                       go_wp2
                       exact bodyPost_ret (v := tmV 4 false nilS noS 0 (.slice o l.length cp) nilS) (by simp [results, Tryz.results17, go_sem, q0, q1, q2, q3, q4, q5, q6]) rfl ⟨⟨_, tupT l, i7 + 1, true, n7, rfl, hFin.out, hle, fun h0 => (by cases h0), fun _ => hbad.out⟩⟩
                     · have hz255 : ((255 : Int) < (l.length : Int)) = False := by simp only [eq_iff_iff, iff_false]; omega
                       obtain ⟨W3, hW3⟩ : ∃ W3, W3 = w9.setCell ⟨g, 2, none⟩ (.bool false) := ⟨_, rfl⟩
                       have hR3 : RRf g s (i7 + 1) false n7 W3 := by rw [hW3]; simpa using hR9.set2 false
                       have hK3 : Kpt (fun q => q = g) W8 W3 := by rw [hW3]; exact hK9.trans (Kpt.of_set (F := fun q => q = g) w9 (p := ⟨g, 2, none⟩) rfl _)
                       have hW3H := hid hW3
                       have hlast : n7 ≤ i7 + 1 ∧ i < i7 + 1 := ⟨by omega, by omega⟩
                       clear hW3 hR9 hK9 e1 e2 e3 e4 e5 e6 l0 T h255 hd7
                       go_upto_region 29 with fail
                       rw [← hW3H.out]
                       obtain ⟨hRB, hBT, hKW0, hTW0⟩ := hend.out W3 _ _ hR3 hK3
                       have hRW := hid hR3
                       have hKW := hid hKW0
                       have hTW := hid hTW0
                       clear hKW0 hTW0 y0 y1 y2 y3 f1 f2 f3 hR3 hK3 x0 x1 x2 x3 x4 x5 x6
                       obtain ⟨x0, x1, x2, x3, x4, x5, x6⟩ := cell7 hBT
                       obtain ⟨e0, e1, e2, e3, e4, e5, e6⟩ := cell7 hRB
                       have efr : ∀ j, W3.frozen? ⟨w.heap.size, j, none⟩ = false := (res7 hRB).fr
                       have hp7 := heap_put7 hRB (.int .i64 4) (.bool false) nilS (.string noS) (.int .i64 0) (.slice o l.length cp) nilS
                       have hon := only_put W3 w.heap.size (.int .i64 4) (.bool false) nilS (.string noS) (.int .i64 0) (.slice o l.length cp) nilS
                       obtain ⟨q0, q1, q2, q3, q4, q5, q6⟩ := cell7 hp7
                       have hFin := hid (rdo_fin (w := w) (T := tupT l) hTW.out (Nat.le_refl _) hRW.out hKW.out hgw hon)
                       clear hp7 hon
                       go_wp2
                       exact bodyPost_ret (v := tmV 4 false nilS noS 0 (.slice o l.length cp) nilS) (by simp [results, Tryz.results17, go_sem, q0, q1, q2, q3, q4, q5, q6]) rfl ⟨⟨_, tupT l, i7 + 1, false, n7, rfl, hFin.out, hle, fun h0 => (by
                         rw [hres.out]
                         exact ⟨rfl, rfl, hlast.1, hlast.2⟩), fun h0 => (by cases h0)⟩⟩
             | false =>
               have hR4 : RRf g s i false (n + 1) wD := by simpa using hRD
               have n123 : b ≠ 123 := fun e => by rw [e] at hB4; simp at hB4
               have hBD := hid (⟨hR4, hKD2, hRBD⟩ : TmB g s i n w wD)
               have c5 := isA g s i false (n + 1) 91 (by omega) hi wD hR4
               rw [show bs [91] = ⟨#[91]⟩ from rfl, hrc.out 91] at c5
               obtain ⟨B5, hB5⟩ : ∃ B, (!false && (b == 91)) = B := ⟨_, rfl⟩
               rw [hB5] at c5
               clear c4 hRD hKD hR4 hKD2 hRBD
               go_wp2_with fail
               refine c5.mono ?_
               rintro e wE ⟨rfl, hRE, hKE⟩
               obtain ⟨hKE2, hRBE⟩ := hBD.out.on hgw hKE
               cases B5 with
               | true =>
                 have hbe : b = 91 := by simpa using hB5
                 subst hbe
                 have hR5 : RRf g s (i + 1) false (n + 1) wE := by simpa using hRE
                 have hv1 : Lib.validD (s.drop (i + 1)) = true := by
                   have := hvH.out
                   rw [drop_cons hbH.out, vd_asc _ (by decide)] at this
                   exact this
                 have hrd := hid (read_lst hbH.out)
                 have c6 := rlist_w g s (i + 1) (n + 1) hs hlt hv1 (fun i' h1 h2 h3 => htH.out i' (by omega) h2 h3) wE hR5 (by omega) (fun w' hw' => hTH.out w' (hKE2.trans hw'))
                 clear c5 hB5 hRE hKE hR5
                 go_wp2_with fail
                 refine c6.mono ?_
                 rintro e w4 ⟨⟨v, T, i4, b4, n4, rfl, hO, hi4, hg4, hb4⟩⟩
                 obtain ⟨xk, xneg, xod, xld, xcd, xnm, xn, xol, xll, xcl, xob, xlb, xcb, rfl⟩ := hO.tv.form
                 have hRW := hid hO.rd
                 have hKW := hid (hKE2.trans hO.kp)
                 have hRB := (hO.kp.block _ (zge.1 hRBE).1 (by omega)).trans hRBE
                 have hTW := hid hO.tv
                 have hSW : w.heap.size + 1 ≤ wE.heap.size := (zge.1 hRBE).1
                 have hgH := hid hg4
                 have hbH4 := hid hb4
                 clear c6 hO hKE2 hRBE hg4 hb4
                 obtain ⟨e0, e1, e2, e3, e4, e5, e6⟩ := cell7 hRB
                 have efr : ∀ j, w4.frozen? ⟨w.heap.size, j, none⟩ = false := (res7 hRB).fr
                 have hp7 := heap_put7 hRB (.int .i64 xk) (.bool xneg) (.slice xod xld xcd) (.string xnm) (.int .i64 xn) (.slice xol xll xcl) (.slice xob xlb xcb)
                 have hon := only_put w4 w.heap.size (.int .i64 xk) (.bool xneg) (.slice xod xld xcd) (.string xnm) (.int .i64 xn) (.slice xol xll xcl) (.slice xob xlb xcb)
                 obtain ⟨q0, q1, q2, q3, q4, q5, q6⟩ := cell7 hp7
                 have hFin := hid (rdo_fin (w := w) hTW.out hSW hRW.out hKW.out hgw hon)
                 clear hp7 hon
                 go_wp2
                 exact bodyPost_ret (v := tmV xk xneg (.slice xod xld xcd) xnm xn (.slice xol xll xcl) (.slice xob xlb xcb)) (by simp [results, Tryz.results17, go_sem, q0, q1, q2, q3, q4, q5, q6]) rfl ⟨⟨_, T, i4, b4, n4, rfl, hFin.out, hi4, fun h0 => (by
                   have := hgH.out h0
                   rw [hrd.out, this.1]
                   exact ⟨rfl, rfl, this.2.1, by omega⟩), fun h0 => (by
                   rw [hrd.out]
                   exact hbH4.out h0)⟩⟩
               | false =>
                 have hR5 : RRf g s i false (n + 1) wE := by simpa using hRE
                 have n91 : b ≠ 91 := fun e => by rw [e] at hB5; simp at hB5
                 have n45 : b ≠ 45 := fun e => by rw [e] at hDn; simp at hDn
                 have hrd := hid (read_nam hbH.out n91 n123 n60 n35 n45 hDn.2)
                 have c6 := ratom_w g s i (n + 1) hs hi hvH.out wE (hTH.out wE hKE2).1 hR5 (fun w' hw' => (hTH.out w' (hKE2.trans hw')).1)
                 clear c5 hB5 hRE hKE hR5 n91 n123 n60 n35 n45
                 go_wp2_with fail
                 refine c6.mono ?_
                 rintro e w4 ⟨v, T, i4, b4, rfl, hO, hi4, hg4, hb4⟩
                 obtain ⟨xk, xneg, xod, xld, xcd, xnm, xn, xol, xll, xcl, xob, xlb, xcb, rfl⟩ := hO.tv.form
                 have hRW := hid hO.rd
                 have hKW := hid (hKE2.trans hO.kp)
                 have hRB := (hO.kp.block _ (zge.1 hRBE).1 (by omega)).trans hRBE
                 have hTW := hid hO.tv
                 have hSW : w.heap.size + 1 ≤ wE.heap.size := (zge.1 hRBE).1
                 have hgH := hid hg4
                 have hbH4 := hid hb4
                 clear c6 hO hKE2 hRBE hg4 hb4
                 obtain ⟨e0, e1, e2, e3, e4, e5, e6⟩ := cell7 hRB
                 have efr : ∀ j, w4.frozen? ⟨w.heap.size, j, none⟩ = false := (res7 hRB).fr
                 have hp7 := heap_put7 hRB (.int .i64 xk) (.bool xneg) (.slice xod xld xcd) (.string xnm) (.int .i64 xn) (.slice xol xll xcl) (.slice xob xlb xcb)
                 have hon := only_put w4 w.heap.size (.int .i64 xk) (.bool xneg) (.slice xod xld xcd) (.string xnm) (.int .i64 xn) (.slice xol xll xcl) (.slice xob xlb xcb)
                 obtain ⟨q0, q1, q2, q3, q4, q5, q6⟩ := cell7 hp7
                 have hFin := hid (rdo_fin (w := w) hTW.out hSW hRW.out hKW.out hgw hon)
                 clear hp7 hon
                 go_wp2
                 exact bodyPost_ret (v := tmV xk xneg (.slice xod xld xcd) xnm xn (.slice xol xll xcl) (.slice xob xlb xcb)) (by simp [results, Tryz.results17, go_sem, q0, q1, q2, q3, q4, q5, q6]) rfl ⟨⟨_, T, i4, b4, n + 1, rfl, hFin.out, hi4, fun h0 => (by
                   have h1 := hgH.out h0
                   have h2 : (readL (s.drop i)).1 = some T := by rw [hrd.out, h1]
                   have h3 := read_shr h2
                   have h4 : (readL (s.drop i)).2 = s.drop i4 := by rw [hrd.out, h1]
                   rw [h4, List.length_drop, List.length_drop] at h3
                   exact ⟨h2, h4, by omega, by omega⟩), fun h0 => (by
                   rw [hrd.out, hbH4.out h0]
                   exact badO_none)⟩⟩
 · have hge : (S.size : Int) ≤ (i : Int) := by have := hszH.out; omega
   have hbad : Hid (badO (readL (s.drop i)).1) := hid (by
     rw [List.drop_of_length_le (by omega)]
     have e1 : (readL []).1 = none := by kernel_rfl
     rw [e1]; exact badO_none)
   go_quiet (fail)
   generalize hWq : World.drewN W1 _ = wq
   have bq : Below W1.heap.size W1 wq := by rw [← hWq]; exact below_drewNv (Below.refl _ _) _
   have hTq : TmB g s i n w wq := ⟨hT1H.out.rd.below bq, (hT1H.out.on hgw (Kpt.of_below bq)).1, (hT1H.out.on hgw (Kpt.of_below bq)).2⟩
   clear hWq bq y0 y1 y2 y3 f1 f2 f3
   obtain ⟨y0, y1, y2, y3, f1, f2, f3⟩ := hTq.rd.cells
   obtain ⟨W3, hW3⟩ : ∃ W3, W3 = wq.setCell ⟨g, 2, none⟩ (.bool true) := ⟨_, rfl⟩
   have hR3 : RRf g s i true (n + 1) W3 := by rw [hW3]; exact hTq.rd.set2 true
   have hK3 : Kpt (fun q => q = g) wq W3 := by rw [hW3]; exact Kpt.of_set (F := fun q => q = g) wq (p := ⟨g, 2, none⟩) rfl _
   obtain ⟨hKW3, hRB3⟩ := hTq.on hgw hK3
   have c4 := rNil_w W3
   rw [hW3] at c4
   have hW3H := hid hW3
   clear hTq hK3 hW3
   go_wp2_with fail
   refine c4.mono ?_
   rw [← hW3H.out]
   rintro e w4 ⟨rfl, b4⟩
   have hRW := hid (hR3.below b4)
   have hKW := hid (hKW3.trans (Kpt.of_below b4))
   have hRB := (b4.block _ (zge.1 hRB3).1).trans hRB3
   clear c4 hR3 hKW3 hRB3 b4 y0 y1 y2 y3 f1 f2 f3 hW3H
   obtain ⟨e0, e1, e2, e3, e4, e5, e6⟩ := cell7 hRB
   have efr : ∀ j, w4.frozen? ⟨w.heap.size, j, none⟩ = false := (res7 hRB).fr
   have hp7 := heap_put7 hRB (.int .i64 5) (.bool false) nilS (.string noS) (.int .i64 0) nilS nilS
   have hon := only_put w4 w.heap.size (.int .i64 5) (.bool false) nilS (.string noS) (.int .i64 0) nilS nilS
   obtain ⟨q0, q1, q2, q3, q4, q5, q6⟩ := cell7 hp7
   have hFin := hid (rdo_fin (w := w) (T := nilT) (tv_flatZ 5 noS 0) (Nat.le_refl _) hRW.out hKW.out hgw hon)
   clear hp7 hon
   go_wp2
   exact bodyPost_ret (v := tmV 5 false nilS noS 0 nilS nilS) (by simp [results, Tryz.results17, go_sem, q0, q1, q2, q3, q4, q5, q6]) rfl ⟨⟨_, nilT, i, true, n + 1, rfl, hFin.out, hi, fun h => (by cases h), fun _ => hbad.out⟩⟩
set_option maxHeartbeats 8000000 in
theorem term_stepA (g : Nat) (s : List UInt8) (i : Nat) (hs : s.length ≤ 3000) (hi : i ≤ s.length) (hv : Lib.validD (s.drop i) = true) (ht : ∀ i', i < i' → i' ≤ s.length → Lib.validD (s.drop i') = true → TermC g s i') (b0 : UInt8) (hb0 : s[i]? = some b0) (hD1 : (b0 == 45 || digB b0) = true) : TermC g s i := by
 intro n w h hn hTb
 have hgw := h.lt
 obtain ⟨W1, hW1⟩ : ∃ W1, W1 = (w.setCell ⟨g, 3, none⟩ (.int .i64 ((n : Int) + 1))).alloc (.cells zr7 27) := ⟨_, rfl⟩
 have hsS : (w.setCell ⟨g, 3, none⟩ (.int .i64 ((n : Int) + 1))).heap.size = w.heap.size := (only_set w g 3 _).2.1
 have bW0 : Below w.heap.size (w.setCell ⟨g, 3, none⟩ (.int .i64 ((n : Int) + 1))) W1 := by rw [hW1, ← hsS]; exact (Below.refl _ _).alloc (Nat.le_refl _) _
 have hT1 : TmB g s i n w W1 := by
   refine ⟨?_, ?_, ?_⟩
   · have := (h.set3 (n + 1)).below (w' := W1) (by rw [(only_set w g 3 _).2.1]; simpa using bW0)
     exact this
   · exact (Kpt.of_set (F := fun q => q = g) w (p := ⟨g, 3, none⟩) rfl (.int .i64 ((n : Int) + 1))).trans (Kpt.of_below (by rw [hsS]; exact bW0))
   · rw [hW1]
     have := heap_alloc_new (w.setCell ⟨g, 3, none⟩ (.int .i64 ((n : Int) + 1))) (.cells zr7 27)
     rw [hsS] at this
     exact this
 obtain ⟨y0, y1, y2, y3, f1, f2, f3⟩ := h.cells
 have z3 := hT1.rd.cells.2.2.2.1
 have z30 : (w.setCell ⟨g, 3, none⟩ (.int .i64 ((n : Int) + 1))).cell? ⟨g, 3, none⟩ = some (.int .i64 ((n : Int) + 1)) := by have := (h.set3 (n + 1)).cells.2.2.2.1; simpa using this
 rw [hW1] at z3
 have hnn : ((n + 1 : Nat) : Int) = (n : Int) + 1 := by omega
 rw [hnn] at z3
 obtain ⟨S, hS⟩ : ∃ S, bs s = S := ⟨_, rfl⟩
 have hsz : S.size = s.length := by rw [← hS]; exact bs_size s
 rw [hS] at y0
 have hSH := hid hS
 have hn3 : (n : Int) ≤ 3000 := by omega
 have hnf : ((65536 : Int) < (n : Int) + 1) = False := by simp only [eq_iff_iff, iff_false]; omega
 have hS3 : (S.size : Int) ≤ 3000 := by omega
 have hi3 : (i : Int) ≤ 3000 := by omega
 have htH := hid ht
 have hTH := hid hTb
 have hvH := hid hv
 have hW1H := hid hW1
 have hszH := hid hsz
 have hT1H := hid hT1
 clear h hW1 bW0 ht hTb hv hS hsz hT1 hnn
 go_enter Tryz.func17, Tryz.ntmps17
 go_upto_region 4 with fail
 rw [← hW1H.out]
 clear hW1H y0 y1 y2 y3 f1 f2 f3 z3 z30 hsS
 obtain ⟨y0, y1, y2, y3, f1, f2, f3⟩ := hT1H.out.rd.cells
 rw [hSH.out] at y0
 by_cases hlt : i < s.length
 · have hge : ((S.size : Int) ≤ (i : Int)) = False := by have := hszH.out; simp only [eq_iff_iff, iff_false]; omega
   obtain ⟨b, hb⟩ : ∃ b, s[i]? = some b := ⟨s[i], by simp [hlt]⟩
   have hix : ∀ w', (Instr.index 9 (.string S) (.int .i64 (i : Int))).run Tryz.prog w' = .ok (.int .u8 (b.toNat : Int)) w' := fun w' => by
     rw [← hSH.out]; exact idx_run s i b hb w'
   have hbH := hid hb
   clear hb
   go_quiet (fail)
   generalize hWq : World.drewN W1 _ = wq
   have bq : Below W1.heap.size W1 wq := by rw [← hWq]; exact below_drewNv (Below.refl _ _) _
   have hTq : TmB g s i n w wq := ⟨hT1H.out.rd.below bq, (hT1H.out.on hgw (Kpt.of_below bq)).1, (hT1H.out.on hgw (Kpt.of_below bq)).2⟩
   clear hWq bq y0 y1 y2 y3 f1 f2 f3
   obtain ⟨y0, y1, y2, y3, f1, f2, f3⟩ := hTq.rd.cells
   rw [hSH.out] at y0
   go_upto_region 7 with fail
   go_quiet (fail)
   generalize hWq : World.drewN wq _ = wb
   have bq : Below wq.heap.size wq wb := by rw [← hWq]; exact below_drewNv (Below.refl _ _) _
   have hB : TmB g s i n w wb := ⟨hTq.rd.below bq, (hTq.on hgw (Kpt.of_below bq)).1, (hTq.on hgw (Kpt.of_below bq)).2⟩
   have hBH := hid hB
   clear hWq bq y0 y1 y2 y3 f1 f2 f3 hTq hT1H hix hge
   obtain ⟨y0, y1, y2, y3, f1, f2, f3⟩ := hB.rd.cells
   rw [hSH.out] at y0
   clear hB
   obtain ⟨DD, hDD⟩ : ∃ DD, (b == 45 || digB b) = DD := ⟨_, rfl⟩
   have hDDH := hid hDD
   go_upto_region 8 with fail
   go_cut [53] from 54 to 63 (fun v wx => v = .bool DD ∧ wx = wb)
   case first =>
     have h45 : b = 45 ↔ b.toNat = 45 := by
       constructor
       · intro e; rw [e]; rfl
       · intro e; exact UInt8.toNat_inj.1 e
     rw [dig_ge] at hDD
     have h45b : (b == 45) = decide (b.toNat = 45) := by
       by_cases h : b = 45
       · rw [decide_eq_true (h45.1 h), h]; rfl
       · rw [decide_eq_false (fun e => h (h45.2 e))]; exact beq_eq_false_iff_ne.2 h
     rw [h45b] at hDD
     clear h45 h45b hDDH
     generalize b.toNat = bn at *
     by_cases q1 : bn = 45
     · have z1 : ((bn : Int) == 45) = true := by rw [q1]; rfl
       have z2 : DD = true := by rw [← hDD, decide_eq_true q1]; rfl
       subst z2
       clear hDD q1
       go_wp2_with fail
       go_meet
       exact ⟨rfl, rfl⟩
     · have z1 : ((bn : Int) == 45) = false := by rw [beq_eq_false_iff_ne]; omega
       rw [decide_eq_false q1, Bool.false_or] at hDD
       by_cases q2 : (48 : Int) ≤ (bn : Int)
       · by_cases q3 : (bn : Int) ≤ 57
         · have z2 : DD = true := by rw [← hDD, decide_eq_true q2, decide_eq_true q3]; rfl
           subst z2
           clear hDD q1
           go_wp2_with fail
           go_meet
           exact ⟨rfl, rfl⟩
         · have z3 : ((bn : Int) ≤ 57) = False := by simp only [q3]
           have z2 : DD = false := by rw [← hDD, decide_eq_false q3]; simp
           subst z2
           clear hDD q1 q3
           go_wp2_with fail
           go_meet
           exact ⟨rfl, rfl⟩
       · have z3 : ((48 : Int) ≤ (bn : Int)) = False := by simp only [q2]
         have z2 : DD = false := by rw [← hDD, decide_eq_false q2]; simp
         subst z2
         clear hDD q1 q2
         go_wp2_with fail
         go_meet
         exact ⟨rfl, rfl⟩
   case rest =>
     obtain ⟨rfl, rfl⟩ := hcut
     clear hDD
     cases DD with
     | true =>
       have hdt : b = 45 ∨ digB b = true := by
         have := hDDH.out
         rw [Bool.or_eq_true] at this
         exact this.imp eq_of_beq id
       have hrd := read_int hbH.out hdt
       have hd := num_end (s := s) (i := i) hlt
       have hR2 := hBH.out.rd.set1 (i + 1)
       obtain ⟨W2, hW2⟩ : ∃ W2, W2 = wc.setCell ⟨g, 1, none⟩ (.int .i64 ((i : Int) + 1)) := ⟨_, rfl⟩
       have hR2' : RRf g s (i + 1) false (n + 1) W2 := by rw [hW2]; simpa using hR2
       have hK2 : Kpt (fun q => q = g) wc W2 := by rw [hW2]; exact Kpt.of_set (F := fun q => q = g) wc (p := ⟨g, 1, none⟩) rfl _
       have c1 := run_w g s (i + 1) false (n + 1) (by omega) hlt W2 hR2'
       obtain ⟨D, hD⟩ : ∃ D, (s.drop (i + 1)).takeWhile digB = D := ⟨_, rfl⟩
       rw [hD] at c1 hd hrd
       rw [← hd.1] at hrd
       obtain ⟨j, hj⟩ : ∃ j, i + 1 + D.length = j := ⟨_, rfl⟩
       rw [hj] at c1 hd hrd
       obtain ⟨L, hL⟩ : ∃ L, b :: D = L := ⟨_, rfl⟩
       rw [hL] at hrd
       have hLl : L.length = j - i := by rw [← hL, ← hj, List.length_cons]; omega
       have hex : S.extract i j = bs L := by
         rw [← hSH.out, bs_ext, drop_cons hbH.out, ← hL, show j - i = D.length + 1 by omega, List.take_succ_cons]
         congr 2
         rw [← hD, ← List.prefix_iff_eq_take.1 (List.takeWhile_prefix digB)]
       have hrdH := hid hrd
       have hjs : j ≤ s.length := hd.2
       have hij : i + 1 ≤ j := by omega
       have hij2 : (i : Int) ≤ (j : Int) := by omega
       have hjS : (j : Int) ≤ (S.size : Int) := by have := hszH.out; omega
       obtain ⟨hKc, hRBc⟩ := hBH.out.on hgw hK2
       have hKcH := hid hKc
       have c2 := fun w' => rparse_w L w' (by omega)
       rw [show (⟨L.toArray⟩ : ByteArray) = bs L from rfl] at c2
       obtain ⟨LB, hLB⟩ : ∃ LB, bs L = LB := ⟨_, rfl⟩
       rw [hLB] at hex c2
       obtain ⟨E, hE⟩ : ∃ E, pE L = E := ⟨_, rfl⟩
       obtain ⟨Z, hZ⟩ : ∃ Z, pZ L = Z := ⟨_, rfl⟩
       rw [hE, hZ] at c2
       rw [hW2] at c1
       have hW2H := hid hW2
       have hEZ := hid (And.intro hE hZ)
       clear hrd hd hR2 hR2' hW2 hD hj hL hLl hLB hE hZ hK2 hKc hdt
       go_wp2_with fail
       refine c1.mono ?_
       rw [← hW2H.out]
       rintro e w3 ⟨rfl, hR3, hK3⟩
       have hRB3 := hid ((hK3.block _ (zge.1 hRBc).1 (by omega)).trans hRBc)
       have hK03 := hid (hKcH.out.trans hK3)
       have hgt3 : w.heap.size + 1 ≤ w3.heap.size := by have := (zge.1 hRBc).1; have := hK3.size; omega
       have hR3H := hid hR3
       clear c1 hK3 hRBc hKcH y0 y1 y2 y3 f1 f2 f3
       obtain ⟨y0, y1, y2, y3, f1, f2, f3⟩ := hR3.cells
       rw [hSH.out] at y0
       clear hR3
       have hAf : ∀ (V w5 : World), V.heap[w3.heap.size]? = some (.cells #[.bool false, .slice none 0 0] 68 (0, 0)) → Below V.heap.size V w5 → w5.cell? ⟨w3.heap.size, 0, none⟩ = some (.bool false) ∧ w5.cell? ⟨w3.heap.size, 1, none⟩ = some (.slice none 0 0) ∧ w5.frozen? ⟨w3.heap.size, 0, none⟩ = false ∧ w5.frozen? ⟨w3.heap.size, 1, none⟩ = false := fun V w5 h1 h2 => by
         have h3 := (h2.block _ (zge.1 h1).1).trans h1
         simp [World.cell?, World.frozen?, h3]
       have hza := heap_alloc_new w3 (.cells #[.bool false, .slice none 0 0] 68)
       have hAf1 : Hid (∀ (w5 : World) {Q : Prop}, Below (w3.alloc (.cells #[.bool false, .slice none 0 0] 68)).drew.heap.size (w3.alloc (.cells #[.bool false, .slice none 0 0] 68)).drew w5 → ((w5.cell? ⟨w3.heap.size, 0, none⟩ = some (.bool false) ∧ w5.cell? ⟨w3.heap.size, 1, none⟩ = some (.slice none 0 0) ∧ w5.frozen? ⟨w3.heap.size, 0, none⟩ = false ∧ w5.frozen? ⟨w3.heap.size, 1, none⟩ = false) → Q) → Q) := hid (fun w5 {Q} hb hq => hq (hAf (w3.alloc (.cells #[.bool false, .slice none 0 0] 68)).drew w5 hza hb))
       have hAf2 : Hid (∀ (w5 : World) {Q : Prop}, Below (w3.alloc (.cells #[.bool false, .slice none 0 0] 68)).heap.size (w3.alloc (.cells #[.bool false, .slice none 0 0] 68)) w5 → ((w5.cell? ⟨w3.heap.size, 0, none⟩ = some (.bool false) ∧ w5.cell? ⟨w3.heap.size, 1, none⟩ = some (.slice none 0 0) ∧ w5.frozen? ⟨w3.heap.size, 0, none⟩ = false ∧ w5.frozen? ⟨w3.heap.size, 1, none⟩ = false) → Q) → Q) := hid (fun w5 {Q} hb hq => hq (hAf (w3.alloc (.cells #[.bool false, .slice none 0 0] 68)) w5 hza hb))
       have hga := (Below.refl w3.heap.size w3).alloc (Nat.le_refl _) (.cells #[.bool false, .slice none 0 0] 68)
       have ya0 := (hga.cell (World.block_lt_of_cell? _ _ y0)).trans y0
       have ya1 := (hga.cell (World.block_lt_of_cell? _ _ y1)).trans y1
       have hbA := hid hga
       have hbAs : w3.heap.size ≤ (w3.alloc (.cells #[.bool false, .slice none 0 0] 68)).heap.size := by simp
       clear hAf hza hga
       go_upto_region 12 with fail
       go_cut [5, 6] from 77 to 90 (fun p5 v6 wx => ∃ gn vb vo vn vc, p5 = .pointer (some ⟨gn, 0, none⟩) ∧ v6 = .int .i64 E ∧ Box gn (.bool vb) (.slice vo vn vc) wx ∧ IsN (.agg #[.bool vb, .slice vo vn vc]) Z 64 wx ∧ Below w3.heap.size w3 wx ∧ w3.heap.size ≤ gn)
       case first =>
         go_region_law (first | (go_simp; go_at_call 30; refine (c2 _).mono ?_; rintro e w5 ⟨v5, rfl, hC5, b5⟩; obtain ⟨vb, vo, vn, vc, rfl⟩ := hC5.shape; (first | (refine hAf1.out w5 b5 ?_; rintro ⟨k0, k1, k2, k3⟩) | (refine hAf2.out w5 b5 ?_; rintro ⟨k0, k1, k2, k3⟩) | skip); try go_simp))
         all_goals (try go_wp2_with fail)
         all_goals go_meet
         all_goals first
           | exact ⟨w5.heap.size, vb, vo, vn, vc, rfl, rfl, Box.new w5 _ _ _, hC5.isN.below ((Below.refl _ w5).alloc (Nat.le_refl _) _), ((Below.refl w3.heap.size w3).drew.trans b5).alloc b5.size _, b5.size⟩
           | exact ⟨w3.heap.size, vb, vo, vn, vc, rfl, rfl, bxs1 (bxs0 (⟨k0, k1, k2, k3⟩ : Box w3.heap.size (.bool false) (.slice none 0 0) w5) _) _, isN_set (isN_set hC5.isN k0 (by intro k x h; cases h)) (bxs0 (⟨k0, k1, k2, k3⟩ : Box w3.heap.size (.bool false) (.slice none 0 0) w5) (.bool vb)).2.1 (by intro k x h; cases h), (((hbA.out.drew.trans (below_le b5 hbAs)).setCell (p := ⟨w3.heap.size, 0, none⟩) (Nat.le_refl _) _).setCell (p := ⟨w3.heap.size, 1, none⟩) (Nat.le_refl _) _), Nat.le_refl _⟩
       case rest =>
         obtain ⟨gn, vb, vo, vn, vc, rfl, rfl, kB, hN, bW, hgn⟩ := hcut
         have hR5 := hR3H.out.below bW
         have hK5 := hK03.out.trans (Kpt.of_below bW)
         have hRB5 := (bW.block _ (by omega)).trans hRB3.out
         have hgng : gn ≠ g := by omega
         clear y0 y1 y2 y3 f1 f2 f3 ya0 ya1 hAf1 hAf2 hbA c2
         obtain ⟨y0, y1, y2, y3, f1, f2, f3⟩ := hR5.cells
         have hstep : Hid (∀ bb, RRf g s j bb (n + 1) (wc.setCell ⟨g, 2, none⟩ (.bool bb)) ∧ Kpt (fun q => q = g) w (wc.setCell ⟨g, 2, none⟩ (.bool bb)) ∧ (wc.setCell ⟨g, 2, none⟩ (.bool bb)).heap[w.heap.size]? = some (.cells zr7 27 (0, 0)) ∧ Box gn (.bool vb) (.slice vo vn vc) (wc.setCell ⟨g, 2, none⟩ (.bool bb)) ∧ IsN (.agg #[.bool vb, .slice vo vn vc]) Z 64 (wc.setCell ⟨g, 2, none⟩ (.bool bb))) := hid (fun bb => by
           have on := only_set wc g 2 (.bool bb)
           refine ⟨hR5.set2 bb, hK5.trans (Kpt.of_set (F := fun q => q = g) wc (p := ⟨g, 2, none⟩) rfl _), (on.2.2 _ (by omega)).trans hRB5, ?_, isN_set hN y2 (by intro k x h; cases h)⟩
           obtain ⟨k0, k1, k2, k3⟩ := kB
           have hb := on.2.2 gn hgng
           exact ⟨(World.cell?_of_block (a := ⟨gn, 0, none⟩) hb).trans k0, (World.cell?_of_block (a := ⟨gn, 1, none⟩) hb).trans k1, by rw [World.frozen?_of_block (a := ⟨gn, 0, none⟩) hb]; exact k2, by rw [World.frozen?_of_block (a := ⟨gn, 1, none⟩) hb]; exact k3⟩)
         clear hR5 hK5 hRB5 kB hN bW hR3H hK03 hRB3
         by_cases hE0 : E = 0
         · subst hE0
           obtain ⟨W6, hW6⟩ : ∃ W6, W6 = wc.setCell ⟨g, 2, none⟩ (.bool false) := ⟨_, rfl⟩
           have h6 := hstep.out false
           rw [← hW6] at h6
           go_upto_region 14 with fail
           rw [← hW6]
           obtain ⟨hR6, hK6, hRB6, ⟨k0, k1, k2, k3⟩, hN6⟩ := h6
           have c7 := rNum_w _ Z 64 W6 (by omega) hN6
           clear y0 y1 y2 y3 f1 f2 f3 hW6 hstep hN6
           go_wp2_with fail
           refine c7.mono ?_
           rintro e w7 ⟨v7, rfl, hT7, _, b7⟩
           obtain ⟨xk, xneg, xod, xld, xcd, xnm, xn, xol, xll, xcl, xob, xlb, xcb, rfl⟩ := hT7.form
           have hRW := hid (hR6.below b7)
           have hKW := hid (hK6.trans (Kpt.of_below b7))
           have hRBl := (zge.1 hRB6).1
           have hRB := (b7.block _ hRBl).trans hRB6
           have hTW := hid (TV.mono (fun q hq hz => (⟨hz.1, hq⟩ : Zb W6.heap.size w7 q)) _ _ hT7)
           have hSW : w.heap.size + 1 ≤ W6.heap.size := hRBl
           clear c7 hT7 b7 hR6 hK6 hRB6 k0 k1 k2 k3
           obtain ⟨e0, e1, e2, e3, e4, e5, e6⟩ := cell7 hRB
           have efr : ∀ j, w7.frozen? ⟨w.heap.size, j, none⟩ = false := (res7 hRB).fr
           have hp7 := heap_put7 hRB (.int .i64 xk) (.bool xneg) (.slice xod xld xcd) (.string xnm) (.int .i64 xn) (.slice xol xll xcl) (.slice xob xlb xcb)
           have hon := only_put w7 w.heap.size (.int .i64 xk) (.bool xneg) (.slice xod xld xcd) (.string xnm) (.int .i64 xn) (.slice xol xll xcl) (.slice xob xlb xcb)
           obtain ⟨q0, q1, q2, q3, q4, q5, q6⟩ := cell7 hp7
           have hFin := hid (rdo_fin (w := w) hTW.out hSW hRW.out hKW.out hgw hon)
           clear hp7 hon
           go_wp2
           exact bodyPost_ret (v := tmV xk xneg (.slice xod xld xcd) xnm xn (.slice xol xll xcl) (.slice xob xlb xcb)) (by simp [results, Tryz.results17, go_sem, q0, q1, q2, q3, q4, q5, q6]) rfl ⟨⟨_, intT Z, j, false, n + 1, rfl, hFin.out, hjs, fun h0 => (by
             rw [hrdH.out, if_pos hEZ.out.1, hEZ.out.2]
             exact ⟨rfl, rfl, by omega, by omega⟩), fun h0 => (by cases h0)⟩⟩
         · have hne : (E != 0) = true := by simp [hE0]
           obtain ⟨W6, hW6⟩ : ∃ W6, W6 = wc.setCell ⟨g, 2, none⟩ (.bool true) := ⟨_, rfl⟩
           have h6 := hstep.out true
           rw [← hW6] at h6
           go_upto_region 14 with fail
           rw [← hW6]
           obtain ⟨hR6, hK6, hRB6, ⟨k0, k1, k2, k3⟩, hN6⟩ := h6
           have c7 := rNum_w _ Z 64 W6 (by omega) hN6
           clear y0 y1 y2 y3 f1 f2 f3 hW6 hstep hN6
           go_wp2_with fail
           refine c7.mono ?_
           rintro e w7 ⟨v7, rfl, hT7, _, b7⟩
           obtain ⟨xk, xneg, xod, xld, xcd, xnm, xn, xol, xll, xcl, xob, xlb, xcb, rfl⟩ := hT7.form
           have hRW := hid (hR6.below b7)
           have hKW := hid (hK6.trans (Kpt.of_below b7))
           have hRBl := (zge.1 hRB6).1
           have hRB := (b7.block _ hRBl).trans hRB6
           have hTW := hid (TV.mono (fun q hq hz => (⟨hz.1, hq⟩ : Zb W6.heap.size w7 q)) _ _ hT7)
           have hSW : w.heap.size + 1 ≤ W6.heap.size := hRBl
           clear c7 hT7 b7 hR6 hK6 hRB6 k0 k1 k2 k3
           obtain ⟨e0, e1, e2, e3, e4, e5, e6⟩ := cell7 hRB
           have efr : ∀ j, w7.frozen? ⟨w.heap.size, j, none⟩ = false := (res7 hRB).fr
           have hp7 := heap_put7 hRB (.int .i64 xk) (.bool xneg) (.slice xod xld xcd) (.string xnm) (.int .i64 xn) (.slice xol xll xcl) (.slice xob xlb xcb)
           have hon := only_put w7 w.heap.size (.int .i64 xk) (.bool xneg) (.slice xod xld xcd) (.string xnm) (.int .i64 xn) (.slice xol xll xcl) (.slice xob xlb xcb)
           obtain ⟨q0, q1, q2, q3, q4, q5, q6⟩ := cell7 hp7
           have hFin := hid (rdo_fin (w := w) hTW.out hSW hRW.out hKW.out hgw hon)
           clear hp7 hon
           go_wp2
           exact bodyPost_ret (v := tmV xk xneg (.slice xod xld xcd) xnm xn (.slice xol xll xcl) (.slice xob xlb xcb)) (by simp [results, Tryz.results17, go_sem, q0, q1, q2, q3, q4, q5, q6]) rfl ⟨⟨_, intT Z, j, true, n + 1, rfl, hFin.out, hjs, fun h0 => (by cases h0), fun h0 => (by
             rw [hrdH.out, if_neg (by rw [hEZ.out.1]; exact hE0)]
             exact badO_none)⟩⟩
     | false =>
       have h1 := hbH.out
       rw [hb0] at h1
       injection h1 with h1
       subst h1
       rw [hDDH.out] at hD1
       cases hD1
 · exact absurd (List.getElem?_eq_some_iff.1 hb0).1 hlt
end Go.Proofs.YtlojfmlaookpmaaGreatDoor
