/- Words of the reference. -/
import Derived.Test.YtddbndachoofoaaDoorTermRMay7
namespace Go.Proofs.YtddbndachoofoaaDoor
open Go.ChangeShapes Go.WideShapes Go.ChangeAt Go.RowKit Go.Shelf
set_option linter.unusedSimpArgs false
set_option linter.unusedVariables false
theorem fldR1 (b : Bool) (o : Option Addr) (n c : Nat) (w : World) : (Instr.field 44 (.agg #[.bool b, .slice o n c]) 1).run Tryd.prog w = .ok (.slice o n c) w := by kernel_rfl
def sumL (l : List Tm) : Nat := ((partsL l).map roomN).sum
theorem sumL_take {l : List Tm} {i : Nat} {t : Tm} (h : l[i]? = some t) : sumL (l.take (i + 1)) = sumL (l.take i) + wordsN t := by
  induction l generalizing i with
  | nil => simp at h
  | cons x l ih =>
    cases i with
    | zero => simp at h; subst h; simp [sumL, partsL, wordsN]
    | succ i =>
      simp only [List.getElem?_cons_succ] at h
      have := ih h
      unfold sumL at this ⊢
      simp only [List.take_succ_cons, partsL, List.map_append, List.sum_append, this]; omega
theorem sumL_le (l : List Tm) (hok : ∀ p ∈ partsL l, p.ok1) (i : Nat) : sumL (l.take i) ≤ (partsL l).length * 1000001 := by
  have h1 : ∀ p ∈ partsL (l.take i), p.ok1 := fun p hp => by
    refine hok p ?_
    clear hok
    induction l generalizing i with
    | nil => simp [partsL] at hp
    | cons x l ih =>
      cases i with
      | zero => simp [partsL] at hp
      | succ i =>
        simp only [List.take_succ_cons, partsL, List.mem_append] at hp ⊢
        rcases hp with hp | hp
        · exact .inl hp
        · exact .inr (ih i hp)
  have := sum_le _ h1
  have h2 := partsL_take_le l i
  unfold sumL
  exact Nat.le_trans this (Nat.mul_le_mul_right _ h2)
set_option maxHeartbeats 4000000 in
set_option maxRecDepth 4000 in
theorem rWords_w : ∀ (N : Nat) (T : Tm) (v : Value) (w : World), tsz T ≤ N → (∀ p ∈ parts T, p.ok1 ∧ fairB p = true) → (parts T).length ≤ 1000000 → TV (Low w) w T v →
    Calls Tryd.prog 27 #[v] w fun e w' => e = .returned (.int .i64 ((wordsN T : Nat) : Int)) ∧ Below w.heap.size w w' := by
  intro N
  induction N with
  | zero => intro T v w h; cases T; simp only [tsz] at h; omega
  | succ N ih =>
  intro T v w hN hok hlen hT
  obtain ⟨hok1, hfair⟩ := hok T (by rw [parts_eq]; simp)
  cases T with | mk tk tneg td tnm tn tl tb =>
  obtain ⟨hd, _, hll, _, hm⟩ : td.length ≤ 1000000 ∧ tnm.size ≤ 1000000 ∧ tl.length ≤ 1000000 ∧ tb.length ≤ 1000000 ∧ Lm 4294967296 td := hok1
  unfold TV at hT
  obtain ⟨tod, tcd, tol, tcl, tob, tcb, rfl, h1, h2, h3, _, _, htl, htR⟩ := hT
  have hB : Below w.heap.size w (w.alloc (.cells #[.int .i64 tk, .bool tneg, .slice tod td.length tcd, .string tnm, .int .i64 tn, .slice tol tl.length tcl, .slice tob tb.length tcb] 29)) := (Below.refl _ w).alloc (Nat.le_refl _) _
  have kA := Bx.new w (.int .i64 tk) (.bool tneg) (.slice tod td.length tcd) (.string tnm) (.int .i64 tn) (.slice tol tl.length tcl) (.slice tob tb.length tcb) 29
  by_cases hk : tk = 4 ∨ tk = 6
  · have hp : parts (.mk tk tneg td tnm tn tl tb) = .mk tk tneg td tnm tn tl tb :: partsL tl := by simp [parts, hk]
    have hok2 : Hid (∀ p ∈ partsL tl, p.ok1) := hid (fun p hp' => (hok p (by rw [hp]; simp [hp'])).1)
    have hpl : Hid ((partsL tl).length ≤ 1000000) := hid (by rw [hp] at hlen; simp at hlen; omega)
    have hIH : Hid (∀ (t : Tm) (v : Value) (w' : World) (i : Nat), tl[i]? = some t → TV (Low w') w' t v → Calls Tryd.prog 27 #[v] w' fun e w'' => e = .returned (.int .i64 ((wordsN t : Nat) : Int)) ∧ Below w'.heap.size w' w'') := hid (fun t v w' i hi hV => by
      refine ih t v w' (by have := tsz_mem hi; simp only [tsz] at hN; omega) (fun p hp' => hok p (by rw [hp]; exact List.mem_cons_of_mem _ (mem_partsL hi hp'))) ?_ hV
      have h5 := partsL_take hi
      have h6 := partsL_take_le tl (i + 1)
      have h7 := hpl.out
      omega)
    obtain ⟨R, hR⟩ : ∃ R, wordsN (.mk tk tneg td tnm tn tl tb) = R := ⟨_, rfl⟩
    rw [hR]
    have hHR : Hid (R = 1 + tl.length + sumL tl) := hid (by
      rw [← hR]
      unfold wordsN
      rw [hp]
      simp only [List.map_cons, List.sum_cons]
      have hroom : roomN (.mk tk tneg td tnm tn tl tb) = 1 + tl.length := by
        rcases hk with rfl | rfl
        · simp [roomN]
        · have hw : withinB (.mk 6 tneg td tnm tn tl tb) = true := by
            unfold fairB at hfair
            rw [Bool.and_eq_true] at hfair
            exact hfair.2
          simp [withinB] at hw
          simp [roomN]
          omega
      rw [hroom]
      rfl)
    clear hR hp hok ih
    rcases hk with rfl | rfl
    · skip
      go_enter Tryd.func27, Tryd.ntmps27
      go_wp2_with fail
      generalize (w.alloc (.cells #[.int .i64 4, .bool tneg, .slice tod td.length tcd, .string tnm, .int .i64 tn, .slice tol tl.length tcl, .slice tob tb.length tcb] 29)) = W0 at *
      go_loopg [5, 6] tl.length (fun t v5 v6 wr => ∃ (i n : Nat), t + i = tl.length ∧ v5 = .int .i64 (n : Int) ∧ v6 = .int .i64 (i : Int) ∧ n ≤ 1000001 + (partsL tl).length * 1000001 ∧ Hid (n = 1 + tl.length + sumL (tl.take i)) ∧ Bx w.heap.size (.int .i64 4) (.bool tneg) (.slice tod td.length tcd) (.string tnm) (.int .i64 tn) (.slice tol tl.length tcl) (.slice tob tb.length tcb) wr ∧ Below w.heap.size w wr)
      case atStart => exact ⟨0, 1 + tl.length, by omega, by go_num, rfl, by omega, hid (by simp [sumL, partsL]), kA, hB⟩
      case round =>
        obtain ⟨i, n, hti, rfl, rfl, hn, hH, kr, hBr⟩ := hrel
        clear kA hB
        have hn2 : n ≤ 1099511627776 := by have := hpl.out; have : (partsL tl).length * 1000001 ≤ 1000000 * 1000001 := Nat.mul_le_mul_right _ this; omega
        obtain ⟨x0, x1, x2, x3, x4, x5, x6⟩ := kr.res
        by_cases hil : i = tl.length
        · subst hil
          have hRn : R = n := by rw [hHR.out, hH.out, List.take_length]
          subst hRn
          go_wp2
          go_ret
          exact ⟨rfl, hBr⟩
        · have hil' : i < tl.length := by omega
          have hii : ((i : Nat) : Int) < ((tl.length : Nat) : Int) := by omega
          obtain ⟨t, ht⟩ : ∃ t, tl[i]? = some t := ⟨tl[i], by simp [hil']⟩
          obtain ⟨a, k', neg', od', ld', cd', nm', n', ol', ll', cl', ob', lb', cb', rfl, hTv', y0, y1, y2, y3, y4, y5, y6⟩ := htR.get ht hBr
          have hI := hid (hIH.out t _ wr i ht hTv')
          have hHt := hid ht
          have hle := hid (sumL_le tl hok2.out (i + 1))
          have hst2 := hid (sumL_take ht)
          clear ht hTv'
          go_wp2_with fail
          refine hI.out.mono ?_
          rintro e w2 ⟨rfl, b2⟩
          have hB2 := below_and hBr (Nat.le_refl _) b2
          have k2 := kr.below b2
          clear x0 x1 x2 x3 x4 x5 x6 y0 y1 y2 y3 y4 y5 y6 b2 hBr kr hI
          obtain ⟨q, hq⟩ : ∃ q, wordsN t = q := ⟨_, rfl⟩
          rw [hq]
          have hHq := hid hq
          clear hq
          have hnq : n + q ≤ 1000001 + (partsL tl).length * 1000001 := by
            have h1 := hH.out
            have h2 := hst2.out
            have h3 := hle.out
            have h4 := hHq.out
            omega
          have hnq2 : n + q ≤ 1099511627776 := by have := hpl.out; have : (partsL tl).length * 1000001 ≤ 1000000 * 1000001 := Nat.mul_le_mul_right _ this; omega
          go_wp2
          go_roundg (tl.length - (i + 1))
          case measure => omega
          case rel =>
            refine ⟨i + 1, n + q, by omega, by go_num, by go_num, hnq, hid ?_, k2, hB2⟩
            have h1 := hH.out
            have h2 := hst2.out
            have h4 := hHq.out
            omega
    · skip
      go_enter Tryd.func27, Tryd.ntmps27
      go_wp2_with fail
      generalize (w.alloc (.cells #[.int .i64 6, .bool tneg, .slice tod td.length tcd, .string tnm, .int .i64 tn, .slice tol tl.length tcl, .slice tob tb.length tcb] 29)) = W0 at *
      go_loopg [5, 6] tl.length (fun t v5 v6 wr => ∃ (i n : Nat), t + i = tl.length ∧ v5 = .int .i64 (n : Int) ∧ v6 = .int .i64 (i : Int) ∧ n ≤ 1000001 + (partsL tl).length * 1000001 ∧ Hid (n = 1 + tl.length + sumL (tl.take i)) ∧ Bx w.heap.size (.int .i64 6) (.bool tneg) (.slice tod td.length tcd) (.string tnm) (.int .i64 tn) (.slice tol tl.length tcl) (.slice tob tb.length tcb) wr ∧ Below w.heap.size w wr)
      case atStart => exact ⟨0, 1 + tl.length, by omega, by go_num, rfl, by omega, hid (by simp [sumL, partsL]), kA, hB⟩
      case round =>
        obtain ⟨i, n, hti, rfl, rfl, hn, hH, kr, hBr⟩ := hrel
        clear kA hB
        have hn2 : n ≤ 1099511627776 := by have := hpl.out; have : (partsL tl).length * 1000001 ≤ 1000000 * 1000001 := Nat.mul_le_mul_right _ this; omega
        obtain ⟨x0, x1, x2, x3, x4, x5, x6⟩ := kr.res
        by_cases hil : i = tl.length
        · subst hil
          have hRn : R = n := by rw [hHR.out, hH.out, List.take_length]
          subst hRn
          go_wp2
          go_ret
          exact ⟨rfl, hBr⟩
        · have hil' : i < tl.length := by omega
          have hii : ((i : Nat) : Int) < ((tl.length : Nat) : Int) := by omega
          obtain ⟨t, ht⟩ : ∃ t, tl[i]? = some t := ⟨tl[i], by simp [hil']⟩
          obtain ⟨a, k', neg', od', ld', cd', nm', n', ol', ll', cl', ob', lb', cb', rfl, hTv', y0, y1, y2, y3, y4, y5, y6⟩ := htR.get ht hBr
          have hI := hid (hIH.out t _ wr i ht hTv')
          have hHt := hid ht
          have hle := hid (sumL_le tl hok2.out (i + 1))
          have hst2 := hid (sumL_take ht)
          clear ht hTv'
          go_wp2_with fail
          refine hI.out.mono ?_
          rintro e w2 ⟨rfl, b2⟩
          have hB2 := below_and hBr (Nat.le_refl _) b2
          have k2 := kr.below b2
          clear x0 x1 x2 x3 x4 x5 x6 y0 y1 y2 y3 y4 y5 y6 b2 hBr kr hI
          obtain ⟨q, hq⟩ : ∃ q, wordsN t = q := ⟨_, rfl⟩
          rw [hq]
          have hHq := hid hq
          clear hq
          have hnq : n + q ≤ 1000001 + (partsL tl).length * 1000001 := by
            have h1 := hH.out
            have h2 := hst2.out
            have h3 := hle.out
            have h4 := hHq.out
            omega
          have hnq2 : n + q ≤ 1099511627776 := by have := hpl.out; have : (partsL tl).length * 1000001 ≤ 1000000 * 1000001 := Nat.mul_le_mul_right _ this; omega
          go_wp2
          go_roundg (tl.length - (i + 1))
          case measure => omega
          case rel =>
            refine ⟨i + 1, n + q, by omega, by go_num, by go_num, hnq, hid ?_, k2, hB2⟩
            have h1 := hH.out
            have h2 := hst2.out
            have h4 := hHq.out
            omega
  · have hp : parts (.mk tk tneg td tnm tn tl tb) = [.mk tk tneg td tnm tn tl tb] := by simp [parts, hk]
    have hw : wordsN (.mk tk tneg td tnm tn tl tb) = roomN (.mk tk tneg td tnm tn tl tb) := by unfold wordsN; rw [hp]; simp
    rw [hw]
    have k4 : ¬ tk = 4 := fun e => hk (.inl e)
    have k6 : ¬ tk = 6 := fun e => hk (.inr e)
    clear hp hw hk ih hok
    obtain ⟨Z, hZ⟩ : ∃ Z, sv tneg (gval 4294967296 td) = Z := ⟨_, rfl⟩
    have hN' : ∀ w', Below w.heap.size w w' → IsN (.agg #[.bool tneg, .slice tod td.length tcd]) Z 1000000 w' := fun w' hb => ⟨tneg, tod, td, tcd, rfl, (h1.zs (fun k hk => hb.block k hk)).lies, h2, h3, hZ, hd⟩
    by_cases k0 : tk = 0
    · subst k0
      have hR : roomN (.mk 0 tneg td tnm tn tl tb) = if smlB Z then 0 else 1 + (glim 4294967296 Z.natAbs).length := by simp [roomN, hZ]
      obtain ⟨R, hRR⟩ : ∃ R, roomN (.mk 0 tneg td tnm tn tl tb) = R := ⟨_, rfl⟩
      rw [hRR]
      rw [hRR] at hR
      have hHR := hid hR
      have hfl := fldR1
      clear hZ hR hRR h1 h2 h3 hm
      go_enter Tryd.func27, Tryd.ntmps27
      go_wp2_with fail
      generalize (w.alloc (.cells #[.int .i64 0, .bool tneg, .slice tod td.length tcd, .string tnm, .int .i64 tn, .slice tol tl.length tcl, .slice tob tb.length tcb] 29)) = w1 at *
      refine (rsmall_w _ Z 1000000 _ (Nat.le_refl _) (hN' _ hB)).mono ?_
      rintro e w3 ⟨rfl, b3⟩
      have hB3 := below_and hB (Nat.le_refl _) b3
      obtain ⟨x0, x1, x2, x3, x4, x5, x6⟩ := (kA.below b3).res
      obtain ⟨bb, hbb⟩ : ∃ bb, smlB Z = bb := ⟨_, rfl⟩
      rw [hbb]
      cases bb with
      | true =>
        have hR1 : R = 0 := by rw [hHR.out, hbb]; rfl
        subst hR1
        clear hbb hHR
        go_wp2
        go_ret
        exact ⟨rfl, hB3⟩
      | false =>
        have hR1 : R = 1 + (glim 4294967296 Z.natAbs).length := by rw [hHR.out, hbb]; rfl
        subst hR1
        clear hbb hHR
        go_wp2_with fail
        refine (rnorm_w _ Z 1000000 _ (Nat.le_refl _) (hN' _ hB3)).mono ?_
        rintro e w5 ⟨sl, rfl, hF, hK, b5⟩
        have hB5 := below_and hB3 (Nat.le_refl _) b5
        obtain ⟨o5, c5, rfl, _, _, _⟩ := hF.parts
        clear hF
        go_wp2
        go_ret
        exact ⟨by simp, hB5⟩
    by_cases k7 : tk = 7
    · subst k7
      go_enter Tryd.func27, Tryd.ntmps27
      go_wp2
      go_ret
      exact ⟨by simp [roomN], hB⟩
    have e0 : (tk == 0) = false := by simp [k0]
    have e4 : (tk == 4) = false := by simp [k4]
    have e6 : (tk == 6) = false := by simp [k6]
    have e7 : (tk == 7) = false := by simp [k7]
    go_enter Tryd.func27, Tryd.ntmps27
    go_wp2
    go_ret
    exact ⟨by simp [roomN, *], hB⟩
end Go.Proofs.YtddbndachoofoaaDoor
