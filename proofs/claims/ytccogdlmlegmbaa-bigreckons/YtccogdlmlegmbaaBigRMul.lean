/- Mul of the reference. -/
import Derived.Test.YtccogdlmlegmbaaBigRAdd
namespace Go.Proofs.Ytccogdlmlegmbaa
open Go.ChangeShapes Go.WideShapes Go.ChangeAt Go.RowKit
set_option linter.unusedSimpArgs false
set_option linter.unusedVariables false
set_option maxHeartbeats 4000000 in
theorem rmul_w (va vb : Value) (X Y : Int) (K : Nat) (w : World) (hK : K ≤ 1000000) (ha : IsN va X K w) (hb : IsN vb Y K w) :
    Calls Try.prog 17 #[va, vb] w fun e w' => ∃ v', e = .returned (.tuple #[v', .bool (mulOk X Y)]) ∧ IsC v' (if mulOk X Y then X * Y else 0) 128 w' ∧ Below w.heap.size w w' := by
  have hA : ∀ w', Below w.heap.size w w' → IsN va X K w' := fun w' hw => ha.below hw
  have hB : ∀ w', Below w.heap.size w w' → IsN vb Y K w' := fun w' hw => hb.below hw
  obtain ⟨na, oa, la, ca, rfl, hLa, hca, hma, hsa, hka⟩ := ha
  obtain ⟨nb, ob, lb, cb, rfl, hLb, hcb, hmb, hsb, hkb⟩ := hb
  clear hsa hsb hma hmb hLa hLb hca hcb hka hkb
  obtain ⟨kA, kB, kC, hB0, hz0⟩ := boxes3 w (.bool na) (.slice oa la.length ca) (.bool nb) (.slice ob lb.length cb) (.bool false) (.slice none 0 0) 34 34 34
  obtain ⟨Z, hZ⟩ : ∃ Z, (if mulOk X Y then X * Y else 0) = Z := ⟨_, rfl⟩
  obtain ⟨ok, hok⟩ : ∃ ok, mulOk X Y = ok := ⟨_, rfl⟩
  rw [hZ]
  have hZ' := hid hZ
  rw [hok]
  have hok' := hid hok
  unfold mulOk at hok'
  clear hZ hok
  go_enter Try.func17, Try.ntmps17
  go_wp2
  generalize (((w.alloc (.cells #[.bool na, .slice oa la.length ca] 34)).alloc (.cells #[.bool nb, .slice ob lb.length cb] 34)).alloc (.cells #[.bool false, .slice none 0 0] 34)) = W0 at *
  obtain ⟨f1, f2, f3, f4⟩ := id kA
  obtain ⟨f5, f6, f7, f8⟩ := id kB
  go_cut [] from 13 to 16 (fun wx => Two X Y K w wx ∧ After w W0 wx)
  case first =>
    go_region_with (first
        | (go_at_call_of 28 oa
           refine (rnorm_w _ X K _ (by omega) (hA _ hB0.drew)).mono ?_
           rintro e w1 ⟨s1, rfl, hF1, q1, b1'⟩
           have b1 : Below W0.heap.size W0 w1 := ((Below.refl _ W0).drew).trans b1'
           clear b1'
           obtain ⟨o1, c1, rfl, L1, z1, _⟩ := hF1.parts
           have hB1 : Below w.heap.size w w1 := below_and hB0 (Nat.le_refl _) b1
           have hz1 := b1.size
           obtain ⟨p1, p2, p3, p4⟩ := kA.below b1 (by omega)
           obtain ⟨p5, p6, p7, p8⟩ := kB.below b1 (by omega))
        | (go_at_call_of 28 ob
           refine (rnorm_w _ Y K _ (by omega) (hB _ hB1)).mono ?_
           rintro e w2 ⟨s2, rfl, hF2, q2, b2'⟩
           have b2 : Below W0.heap.size W0 w2 := below_and b1 (Nat.le_refl _) b2'
           have L1' := L1.below b2'
           clear b2' p1 p2 p3 p4 p5 p6 p7 p8
           obtain ⟨o2, c2, rfl, L2, z2, _⟩ := hF2.parts
           have kA2 := kA.below b2 (by omega)
           have kB2 := kB.below b2 (by omega)
           obtain ⟨p1, p2, p3, p4⟩ := id kA2
           obtain ⟨p5, p6, p7, p8⟩ := id kB2))
    all_goals (go_wp2_with fail; go_meet)
    all_goals (have hAf := after_put (a0 := .bool (decide (X < 0))) (a1 := .slice o1 (glim 4294967296 X.natAbs).length c1) (b0 := .bool (decide (Y < 0))) (b1 := .slice o2 (glim 4294967296 Y.natAbs).length c2) hB0 (by omega) b2; exact ⟨⟨o1, c1, o2, c2, (boxes_put kA kB (by omega) b2).1, (boxes_put kA kB (by omega) b2).2, (L1'.box kA2 _ _).box (kB2.far (by omega)) _ _, (L2.box kA2 _ _).box (kB2.far (by omega)) _ _, z1, z2, q1, q2⟩, hAf⟩)
  case rest =>
    obtain ⟨⟨o1, c1, o2, c2, kA', kB', L1, L2, z1, z2, q1, q2⟩, hAf⟩ := hcut
    have kC' := hAf.1 _ _ _ (by omega) (by omega) kC
    have hsz := hAf.2.1
    have hBx := hAf.2.2
    clear hAf kA kB kC f1 f2 f3 f4 f5 f6 f7 f8 hB0 hA hB
    obtain ⟨f1, f2, f3, f4⟩ := id kA'
    obtain ⟨f5, f6, f7, f8⟩ := id kB'
    obtain ⟨e1, e2, e3, e4⟩ := id kC'
    by_cases h1 : (glim 4294967296 X.natAbs).length ≤ 128
    · have h1z : ¬ (128 : Int) < ((glim 4294967296 X.natAbs).length : Int) := by omega
      by_cases h2 : (glim 4294967296 Y.natAbs).length ≤ 128
      · have h2z : ¬ (128 : Int) < ((glim 4294967296 Y.natAbs).length : Int) := by omega
        have hsv := sv_mul X Y
        have hvX := gval_glim (b := 4294967296) (by omega) X.natAbs
        have hvY := gval_glim (b := 4294967296) (by omega) Y.natAbs
        have ma := lm_glim (b := 4294967296) (by omega) X.natAbs
        have mb := lm_glim (b := 4294967296) (by omega) Y.natAbs
        obtain ⟨A, hA⟩ : ∃ A, glim 4294967296 X.natAbs = A := ⟨_, rfl⟩
        obtain ⟨B, hB⟩ : ∃ B, glim 4294967296 Y.natAbs = B := ⟨_, rfl⟩
        rw [hA] at hvX ma kA' L1 z1 q1 h1 h1z f2
        rw [hB] at hvY mb kB' L2 z2 q2 h2 h2z f6
        have hAl : ln X = A.length := by unfold ln; rw [hA]
        have hBl : ln Y = B.length := by unfold ln; rw [hB]
        have hvX' := hid hvX
        have hvY' := hid hvY
        have hsv' := hid hsv
        have hAl' := hid hAl
        have hBl' := hid hBl
        clear hvX hvY hsv hAl hBl hA hB
        have hmk := run_make_row' (P := Try.prog) 23 63 (.int .u32 0) 4 Try.underlying23 info32u rfl .i64 .i64 (A.length + B.length) (by omega) (by omega) wc
        rw [show (((A.length + B.length : Nat)) : Int) = (A.length : Int) + (B.length : Int) by omega] at hmk
        have hOwn := Own.made (A.length + B.length) wc
        have hB1 : Below wc.heap.size wc (wc.alloc (.cells (madeCells #[.int .u32 0] (A.length + B.length)) 63)) := (Below.refl _ wc).alloc (Nat.le_refl _) _
        have hg1 : wc.heap.size < (wc.alloc (.cells (madeCells #[.int .u32 0] (A.length + B.length)) 63)).heap.size := by simp
        go_wp2
        generalize wc.alloc (.cells (madeCells #[.int .u32 0] (A.length + B.length)) 63) = W1 at *
        clear hmk f1 f2 f3 f4 f5 f6 f7 f8 e1 e2 e3 e4
        go_loopw [8] (fun i wr => ∃ (k : Nat) (L : List Nat), i = .int .i64 (k : Int) ∧ k ≤ A.length ∧ Own wc.heap.size L wr ∧ wc.heap.size < wr.heap.size ∧ L.length = A.length + B.length ∧ Lm 4294967296 L ∧ Below wc.heap.size wc wr ∧ Hid (gval 4294967296 L = gval 4294967296 (A.take k) * gval 4294967296 B) ∧ Hid (∀ j, k + B.length ≤ j → j < L.length → L[j]? = some 0)) (fun i _ => A.length - (intOf i).toNat)
        case atStart =>
          refine ⟨0, _, rfl, by omega, hOwn, hg1, by simp, Lm.replicate (by omega) _, hB1, hid ?_, hid fun j _ hj => ?_⟩
          · rw [gval_zeros _ _ (fun x hx => (List.mem_replicate.1 hx).2)]; simp [gval]
          · simp at hj; simp [hj]
        case round =>
          obtain ⟨k, L0, rfl, hk, hL0, hg0, hLl0, hLm0, hbw0, hG0, hZ0⟩ := hrel
          clear hOwn hB1 hg1
          obtain ⟨f1, f2, f3, f4⟩ := kA'.below hbw0 (by omega)
          obtain ⟨f5, f6, f7, f8⟩ := kB'.below hbw0 (by omega)
          by_cases hkA : k < A.length
          · have h1y : (k : Int) < (A.length : Int) := by omega
            obtain ⟨x, hx⟩ : ∃ x, A[k]? = some x := ⟨A[k], by simp [hkA]⟩
            have hxm := ma.at hx
            go_wp2
            clear f1 f2 f3 f4 f5 f6 f7 f8
            go_loopw [9, 10] (fun c j wr => ∃ (q cn : Nat) (L : List Nat), c = .int .u64 (cn : Int) ∧ j = .int .i64 (q : Int) ∧ q ≤ B.length ∧ cn < 4294967296 ∧ Own wc.heap.size L wr ∧ wc.heap.size < wr.heap.size ∧ L.length = A.length + B.length ∧ Lm 4294967296 L ∧ Below wc.heap.size wc wr ∧ Hid (gval 4294967296 L + 4294967296 ^ (k + q) * cn = gval 4294967296 L0 + 4294967296 ^ k * (x * gval 4294967296 (B.take q))) ∧ Hid (∀ j, k + B.length ≤ j → j < L.length → L[j]? = some 0)) (fun _ j _ => B.length - (intOf j).toNat)
            case atStart => exact ⟨0, 0, L0, rfl, rfl, by omega, by omega, hL0, hg0, hLl0, hLm0, hbw0, hid (by simp [gval]), hZ0⟩
            case round =>
              obtain ⟨q, cn, L, rfl, rfl, hq, hcn, hL, hg, hLl, hLm, hbw, hH, hZ⟩ := hrel
              obtain ⟨f1, f2, f3, f4⟩ := kA'.below hbw (by omega)
              obtain ⟨f5, f6, f7, f8⟩ := kB'.below hbw (by omega)
              by_cases hqB : q < B.length
              · have h2y : (q : Int) < (B.length : Int) := by omega
                obtain ⟨y, hy⟩ : ∃ y, B[q]? = some y := ⟨B[q], by simp [hqB]⟩
                obtain ⟨a, rfl, cx⟩ := (L1.below hbw) k x hx
                obtain ⟨b, rfl, cy⟩ := (L2.below hbw) q y hy
                have hym := mb.at hy
                obtain ⟨t, ht⟩ : ∃ t, k + q = t := ⟨_, rfl⟩
                have htz : (k : Int) + (q : Int) = (t : Int) := by omega
                have htl : (t : Int) < ((A.length + B.length : Nat) : Int) := by omega
                obtain ⟨old, hold⟩ : ∃ old, L[t]? = some old := ⟨L[t]'(by omega), by simp⟩
                have cL := hL.1 t old hold
                have fL := hL.2 t
                have hom := hLm.at hold
                obtain ⟨p, hp⟩ : ∃ p, x * y = p := ⟨_, rfl⟩
                have hpm : p ≤ 18446744065119617025 := by rw [← hp]; exact Nat.mul_le_mul (by omega : x ≤ 4294967295) (by omega : y ≤ 4294967295)
                have hpz : (x : Int) * (y : Int) = (p : Int) := (Int.natCast_mul x y).symm.trans (congrArg (fun n : Nat => (n : Int)) hp)
                obtain ⟨s, hs⟩ : ∃ s, cn + (p + old) = s := ⟨_, rfl⟩
                have w0 : IntKind.u64.wrap (x : Int) = (x : Int) := by rw [IntKind.wrap_u64]; omega
                have w0' : IntKind.u64.wrap (y : Int) = (y : Int) := by rw [IntKind.wrap_u64]; omega
                have w0'' : IntKind.u64.wrap (old : Int) = (old : Int) := by rw [IntKind.wrap_u64]; omega
                have w1 : IntKind.u64.wrap (p : Int) = (p : Int) := by rw [IntKind.wrap_u64]; omega
                have w2 : IntKind.u64.wrap ((p : Int) + (old : Int)) = (p : Int) + (old : Int) := by rw [IntKind.wrap_u64]; omega
                have w3 : IntKind.u64.wrap ((p : Int) + (old : Int) + (cn : Int)) = (s : Int) := by rw [IntKind.wrap_u64]; omega
                have w4 : IntKind.u32.wrap (s : Int) = ((s % 4294967296 : Nat) : Int) := by rw [IntKind.wrap_u32]; omega
                have hH2 := hH.out
                rw [ht] at hH2
                have hs2 : cn + (x * y + old) = s := by rw [hp]; exact hs
                have hstep := hid (mul_step hs2 (gval_set 4294967296 (s % 4294967296) hold) hH2)
                clear hH2 hs2
                have hp' := hid hp
                have hs' := hid hs
                have ht' := hid ht
                clear hp hs ht
                go_wp2
                go_quiet (fail)
                have hD := below_drewNv (Below.refl wr.heap.size wr) nq
                have hbq := below_and hbw (Nat.le_refl _) hD
                have hLq := hL.below hD hg
                have hgq : wc.heap.size < (wr.drewN nq).heap.size := Nat.lt_of_lt_of_le hg hD.size
                clear cx cy cL fL f1 f2 f3 f4 f5 f6 f7 f8 hbw hL hD hg
                generalize wr.drewN nq = wq at *
                have cL := hLq.1 t old hold
                have fL := hLq.2 t
                go_wp2
                go_roundw
                case rel =>
                  have hsm : s ≤ 18446744073709551615 := by have := hs'.out; omega
                  have ht := ht'.out
                  refine ⟨q + 1, s / 4294967296, L.set t (s % 4294967296), by congr 1, by go_num, by omega, by omega, hLq.set _ (by omega), by simpa using hgq, by simp [hLl], hLm.set _ _ (Nat.mod_lt _ (by omega)), hbq.setCell (Nat.le_refl _) _, hid ?_, hid fun j hj hjl => ?_⟩
                  · rw [show k + (q + 1) = t + 1 by omega, pow_step, gval_take_succ _ hy, hstep.out, Nat.mul_add, Nat.mul_add, ← ht, mul_tail]
                  · rw [List.getElem?_set_ne (by omega)]
                    exact hZ.out j hj (by simpa using hjl)
                case measure => simp [intOf]; omega
              · have h2y : ¬ (q : Int) < (B.length : Int) := by omega
                have hqe : q = B.length := by omega
                subst hqe
                obtain ⟨t, ht⟩ : ∃ t, k + B.length = t := ⟨_, rfl⟩
                have htz : (k : Int) + (B.length : Int) = (t : Int) := by omega
                have htl : (t : Int) < ((A.length + B.length : Nat) : Int) := by omega
                have hold := hZ.out t (by omega) (by omega)
                have cL := hL.1 t 0 hold
                have fL := hL.2 t
                have w3 : IntKind.u32.wrap (cn : Int) = (cn : Int) := by rw [IntKind.wrap_u32]; omega
                have ht' := hid ht
                have hold' := hid hold
                clear ht hold
                go_wp2
                go_roundw
                case rel =>
                  have ht := ht'.out
                  refine ⟨k + 1, L.set t cn, by go_num, by omega, hL.set _ (by omega), by simpa using hg, by simp [hLl], hLm.set _ _ hcn, hbw.setCell (Nat.le_refl _) _, hid ?_, hid fun j hj hjl => ?_⟩
                  · have e := gval_set 4294967296 cn hold'.out
                    have hh := hH.out
                    rw [ht, List.take_length, hG0.out] at hh
                    rw [gval_take_succ _ hx, Nat.add_mul]
                    have e2 : 4294967296 ^ k * (x * gval 4294967296 B) = 4294967296 ^ k * x * gval 4294967296 B := by rw [Nat.mul_assoc]
                    omega
                  · rw [List.getElem?_set_ne (by omega)]
                    exact hZ.out j (by omega) (by simpa using hjl)
                case measure => simp [intOf]; omega
          · have h1y : ¬ (k : Int) < (A.length : Int) := by omega
            have hke : k = A.length := by omega
            subst hke
            have hgv := hG0.out
            rw [List.take_length, hvX'.out, hvY'.out] at hgv
            have hN := own_isN (K := 256) (decide (X < 0) != decide (Y < 0)) hL0 hLm0 hgv (by omega)
            rw [hsv'.out, hLl0] at hN
            have hBw := below_and hBx (Nat.le_refl _) hbw0
            have kC0 := kC'.below hbw0 (by omega)
            clear hgv hG0 hZ0
            go_wp2_with fail
            refine (rnorm_w _ (X * Y) 256 _ (by omega) hN).mono ?_
            rintro e w4 ⟨s4, rfl, hF4, hk4, b4⟩
            obtain ⟨o4, c4, rfl, L4, z4, _⟩ := hF4.parts
            have kC4 := kC0.below b4 (by omega)
            have hBw4 := below_and hBw (Nat.le_refl _) b4
            have s4 := b4.size
            obtain ⟨kN, hBN, hzN⟩ := newbox w4 (.bool (decide (X * Y < 0))) (.slice o4 (glim 4294967296 (X * Y).natAbs).length c4) 34
            have kC5 := kC4.below hBN (by omega)
            have hBw5 := below_and hBw4 (Nat.le_refl _) hBN
            have L5 := L4.below hBN
            clear f1 f2 f3 f4 f5 f6 f7 f8
            obtain ⟨e1, e2, e3, e4⟩ := id kC5
            obtain ⟨e5, e6, e7, e8⟩ := id kN
            obtain ⟨e9, e10, e11, e12⟩ := id kC4
            have hAl := hAl'.out
            have hBl := hBl'.out
            by_cases h3 : (glim 4294967296 (X * Y).natAbs).length ≤ 128
            · have h3z : ¬ (128 : Int) < ((glim 4294967296 (X * Y).natAbs).length : Int) := by omega
              have hf : ok = true := by rw [← hok'.out, hAl, hBl]; unfold ln; simp; omega
              have hZ0 : Z = X * Y := by rw [← hZ'.out]; unfold mulOk; rw [hAl, hBl]; unfold ln; rw [if_pos (by simp; omega)]
              subst hf hZ0
              clear hok' hZ' hAl hBl
              go_wp2
              refine bodyPost_ret (v := .tuple #[.agg #[.bool (decide (X * Y < 0)), .slice o4 (glim 4294967296 (X * Y).natAbs).length c4], .bool true]) (by simp [results, Try.results17, go_sem, e1, e2]) rfl ⟨_, rfl, ?_, ?_⟩
              · exact (show IsC _ (X * Y) _ _ from ⟨o4, c4, rfl, L5, z4, h3⟩).box kC5
              · exact (hBw5.setCell (p := ⟨w.heap.size + 1 + 1, 0, none⟩) (by simp; omega) _).setCell (p := ⟨w.heap.size + 1 + 1, 1, none⟩) (by simp; omega) _
            · have h3z : (128 : Int) < ((glim 4294967296 (X * Y).natAbs).length : Int) := by omega
              have hf : ok = false := by rw [← hok'.out, hAl, hBl]; unfold ln; simp; omega
              have hZ0 : Z = 0 := by rw [← hZ'.out]; unfold mulOk; rw [hAl, hBl]; unfold ln; rw [if_neg (by simp; omega)]
              subst hf hZ0
              clear hok' hZ' hAl hBl
              go_wp2
              refine bodyPost_ret (v := .tuple #[.agg #[.bool false, .slice none 0 0], .bool false]) (by simp [results, Try.results17, go_sem, e1, e2]) rfl ⟨_, rfl, isC_zero _ _, ?_⟩
              exact (hBw5.setCell (p := ⟨w.heap.size + 1 + 1, 0, none⟩) (by simp; omega) _).setCell (p := ⟨w.heap.size + 1 + 1, 1, none⟩) (by simp; omega) _
      · have h2z : (128 : Int) < ((glim 4294967296 Y.natAbs).length : Int) := by omega
        have hf : ok = false := by rw [← hok'.out]; unfold ln; simp; omega
        have hZ0 : Z = 0 := by rw [← hZ'.out]; unfold mulOk ln; rw [if_neg (by simp; omega)]
        subst hf hZ0
        clear hok' hZ'
        go_wp2
        refine bodyPost_ret (v := .tuple #[.agg #[.bool false, .slice none 0 0], .bool false]) (by simp [results, Try.results17, go_sem, e1, e2]) rfl ⟨_, rfl, isC_zero _ _, ?_⟩
        exact (hBx.setCell (p := ⟨w.heap.size + 1 + 1, 0, none⟩) (by simp; omega) _).setCell (p := ⟨w.heap.size + 1 + 1, 1, none⟩) (by simp; omega) _
    · have h1z : (128 : Int) < ((glim 4294967296 X.natAbs).length : Int) := by omega
      have hf : ok = false := by rw [← hok'.out]; unfold ln; simp; omega
      have hZ0 : Z = 0 := by rw [← hZ'.out]; unfold mulOk ln; rw [if_neg (by simp; omega)]
      subst hf hZ0
      clear hok' hZ'
      go_wp2
      refine bodyPost_ret (v := .tuple #[.agg #[.bool false, .slice none 0 0], .bool false]) (by simp [results, Try.results17, go_sem, e1, e2]) rfl ⟨_, rfl, isC_zero _ _, ?_⟩
      exact (hBx.setCell (p := ⟨w.heap.size + 1 + 1, 0, none⟩) (by simp; omega) _).setCell (p := ⟨w.heap.size + 1 + 1, 1, none⟩) (by simp; omega) _
end Go.Proofs.Ytccogdlmlegmbaa
