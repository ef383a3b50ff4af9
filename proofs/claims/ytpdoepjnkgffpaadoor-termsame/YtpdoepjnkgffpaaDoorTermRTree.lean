/- Tree of the reference. -/
import Derived.Test.YtpdoepjnkgffpaaDoorTermRoomL
namespace Go.Proofs.YtpdoepjnkgffpaaDoor
open Go.ChangeShapes Go.WideShapes Go.ChangeAt Go.RowKit Go.Shelf
set_option linter.unusedSimpArgs false
set_option linter.unusedVariables false
set_option maxRecDepth 2000
theorem partsL_take {l : List Tm} {i : Nat} {t : Tm} (h : l[i]? = some t) : (partsL (l.take (i + 1))).length = (partsL (l.take i)).length + (parts t).length := by
  induction l generalizing i with
  | nil => simp at h
  | cons x l ih =>
    cases i with
    | zero => simp at h; subst h; simp [partsL]
    | succ i =>
      simp only [List.getElem?_cons_succ] at h
      simp only [List.take_succ_cons, partsL, List.length_append, ih h]; omega
theorem parts_len (t : Tm) : 1 ≤ (parts t).length := by rw [parts_eq]; simp
theorem partsL_take_le (l : List Tm) (i : Nat) : (partsL (l.take i)).length ≤ (partsL l).length := by
  induction l generalizing i with
  | nil => simp [partsL]
  | cons x l ih =>
    cases i with
    | zero => simp [partsL]
    | succ i => simp only [List.take_succ_cons, partsL, List.length_append]; have := ih i; omega
theorem tr_end {M M' n p q : Nat} (hM : M' = M + 1) (hH : (n ≤ M → n = p + 1) ∧ (M < n → M < p + 1)) (hle : p ≤ q) (hs : p = q ∨ M < n) : min (q + 1) M' = min n M' := by
  subst hM
  rcases hs with rfl | h
  · rcases Nat.lt_or_ge M n with h | h
    · have := hH.2 h; omega
    · have := hH.1 h; omega
  · have := hH.2 h; omega
theorem tr_step {M M' n p p' k q : Nat} (hM : M' = M + 1) (h1 : n = p + 1) (h2 : p' = p + k) (h3 : min k M' = q) : (n + q ≤ M → n + q = p' + 1) ∧ (M < n + q → M < p' + 1) := by
  subst hM; omega
theorem mem_partsL {l : List Tm} {i : Nat} {t p : Tm} (h : l[i]? = some t) (hp : p ∈ parts t) : p ∈ partsL l := by
  induction l generalizing i with
  | nil => simp at h
  | cons x l ih =>
    cases i with
    | zero => simp at h; subst h; simp [partsL, hp]
    | succ i => simp only [List.getElem?_cons_succ] at h; simp only [partsL, List.mem_append]; exact .inr (ih h)
set_option maxHeartbeats 2000000 in
set_option maxRecDepth 4000 in
theorem rTree_w : ∀ (N : Nat) (T : Tm) (v : Value) (w : World), tsz T ≤ N → (∀ p ∈ parts T, p.ok1) → TV (Low w) w T v →
    Calls Tryd.prog 37 #[v] w fun e w' => e = .returned (.int .i64 ((treeN T : Nat) : Int)) ∧ Below w.heap.size w w' := by
  intro N
  induction N with
  | zero => intro T v w h; cases T; simp only [tsz] at h; omega
  | succ N ih =>
  intro T v w hN hok hT
  have hok1 := hok T (by rw [parts_eq]; simp)
  cases T with | mk tk tneg td tnm tn tl tb =>
  obtain ⟨_, _, hll, _, _⟩ : td.length ≤ 1000000 ∧ tnm.size ≤ 1000000 ∧ tl.length ≤ 1000000 ∧ tb.length ≤ 1000000 ∧ Lm 4294967296 td := hok1
  unfold TV at hT
  obtain ⟨tod, tcd, tol, tcl, tob, tcb, rfl, _, _, _, _, _, htl, htR⟩ := hT
  have hB : Below w.heap.size w (w.alloc (.cells #[.int .i64 tk, .bool tneg, .slice tod td.length tcd, .string tnm, .int .i64 tn, .slice tol tl.length tcl, .slice tob tb.length tcb] 31)) := (Below.refl _ w).alloc (Nat.le_refl _) _
  have kA := Bx.new w (.int .i64 tk) (.bool tneg) (.slice tod td.length tcd) (.string tnm) (.int .i64 tn) (.slice tol tl.length tcl) (.slice tob tb.length tcb) 31
  have hIH := hid ih
  clear ih
  obtain ⟨R, hR⟩ : ∃ R, treeN (.mk tk tneg td tnm tn tl tb) = R := ⟨_, rfl⟩
  rw [hR]
  unfold treeN at hR
  by_cases hk : tk = 4 ∨ tk = 6
  · have hp : parts (.mk tk tneg td tnm tn tl tb) = .mk tk tneg td tnm tn tl tb :: partsL tl := by simp [parts, hk]
    have hok2 : Hid (∀ p ∈ partsL tl, p.ok1) := hid (fun p hp' => hok p (by rw [hp]; simp [hp']))
    rw [hp] at hR
    simp only [List.length_cons] at hR
    have hHR := hid hR
    clear hR hp hok
    rcases hk with rfl | rfl
    · skip
      go_enter Tryd.func37, Tryd.ntmps37
      go_wp2_with fail
      generalize (w.alloc (.cells #[.int .i64 4, .bool tneg, .slice tod td.length tcd, .string tnm, .int .i64 tn, .slice tol tl.length tcl, .slice tob tb.length tcb] 31)) = W0 at *
      go_loopg [3, 4] tl.length (fun t v3 v4 wr => ∃ (i n : Nat), t + i = tl.length ∧ v3 = .int .i64 (n : Int) ∧ v4 = .int .i64 (i : Int) ∧ n ≤ 131073 ∧ Hid ((n ≤ 65536 → n = (partsL (tl.take i)).length + 1) ∧ (65536 < n → 65536 < (partsL (tl.take i)).length + 1)) ∧ Bx w.heap.size (.int .i64 4) (.bool tneg) (.slice tod td.length tcd) (.string tnm) (.int .i64 tn) (.slice tol tl.length tcl) (.slice tob tb.length tcb) wr ∧ Below w.heap.size w wr)
      case atStart => exact ⟨0, 1, by omega, rfl, rfl, by omega, hid (by simp [partsL]), kA, hB⟩
      case round =>
        obtain ⟨i, n, hti, rfl, rfl, hn, hH, kr, hBr⟩ := hrel
        clear kA hB
        obtain ⟨x0, x1, x2, x3, x4, x5, x6⟩ := kr.res
        by_cases hst : i = tl.length ∨ 65536 < n
        · have hRn : R = min n 65537 := by
            have h1 := hH.out
            rw [← hHR.out]
            exact tr_end (M := 65536) rfl h1 (partsL_take_le tl i) (hst.imp (fun h => by rw [h, List.take_length]) id)
          by_cases hn2 : n ≤ 65536
          · have hil : i = tl.length := by omega
            have hRn2 : R = n := by omega
            subst hRn2
            have e1 : ¬ ((i : Int) < (tl.length : Int)) := by omega
            have e2 : ((R : Nat) : Int) ≤ 65536 := by omega
            clear hst hRn hil
            go_wp2
            go_ret
            refine ⟨?_, hBr⟩
            first | rfl | (simp; omega)
          · have hRn2 : R = 65537 := by omega
            subst hRn2
            have e2 : ¬ ((n : Int) ≤ 65536) := by omega
            have e3 : (65537 : Int) ≤ (n : Int) := by omega
            clear hst hRn
            go_wp2
            all_goals (
              go_ret
              refine ⟨?_, hBr⟩
              first | rfl | (simp; omega))
        · have hil' : i < tl.length := by omega
          have hii : ((i : Nat) : Int) < ((tl.length : Nat) : Int) := by omega
          have hn6 : n ≤ 65536 := by omega
          have hn7 : ((n : Nat) : Int) ≤ 65536 := by omega
          clear hst
          obtain ⟨t, ht⟩ : ∃ t, tl[i]? = some t := ⟨tl[i], by simp [hil']⟩
          obtain ⟨a, k', neg', od', ld', cd', nm', n', ol', ll', cl', ob', lb', cb', rfl, hTv', y0, y1, y2, y3, y4, y5, y6⟩ := htR.get ht hBr
          have hsz : tsz t ≤ N := by have := tsz_mem ht; simp only [tsz] at hN; omega
          have hokt : ∀ p ∈ parts t, p.ok1 := fun p hp => hok2.out p (mem_partsL ht hp)
          have hHt := hid ht
          have hst2 := hid (partsL_take ht)
          clear ht
          go_wp2_with fail
          refine (hIH.out t _ _ hsz hokt hTv').mono ?_
          rintro e w2 ⟨rfl, b2⟩
          have hB2 := below_and hBr (by have := hBr.size; omega) b2
          have k2 := kr.below b2
          have htn : treeN t ≤ 65537 := Nat.min_le_right _ _
          clear hTv' x0 x1 x2 x3 x4 x5 x6 y0 y1 y2 y3 y4 y5 y6 b2 hBr kr hokt
          obtain ⟨q, hq⟩ : ∃ q, treeN t = q := ⟨_, rfl⟩
          rw [hq] at htn ⊢
          have hHq := hid hq
          clear hq
          go_wp2
          go_roundg (tl.length - (i + 1))
          case measure => omega
          case rel =>
            refine ⟨i + 1, n + q, by omega, by go_num, by go_num, by omega, hid ?_, k2, hB2⟩
            exact tr_step (M := 65536) rfl (hH.out.1 hn6) hst2.out hHq.out
    · skip
      go_enter Tryd.func37, Tryd.ntmps37
      go_wp2_with fail
      generalize (w.alloc (.cells #[.int .i64 6, .bool tneg, .slice tod td.length tcd, .string tnm, .int .i64 tn, .slice tol tl.length tcl, .slice tob tb.length tcb] 31)) = W0 at *
      go_loopg [3, 4] tl.length (fun t v3 v4 wr => ∃ (i n : Nat), t + i = tl.length ∧ v3 = .int .i64 (n : Int) ∧ v4 = .int .i64 (i : Int) ∧ n ≤ 131073 ∧ Hid ((n ≤ 65536 → n = (partsL (tl.take i)).length + 1) ∧ (65536 < n → 65536 < (partsL (tl.take i)).length + 1)) ∧ Bx w.heap.size (.int .i64 6) (.bool tneg) (.slice tod td.length tcd) (.string tnm) (.int .i64 tn) (.slice tol tl.length tcl) (.slice tob tb.length tcb) wr ∧ Below w.heap.size w wr)
      case atStart => exact ⟨0, 1, by omega, rfl, rfl, by omega, hid (by simp [partsL]), kA, hB⟩
      case round =>
        obtain ⟨i, n, hti, rfl, rfl, hn, hH, kr, hBr⟩ := hrel
        clear kA hB
        obtain ⟨x0, x1, x2, x3, x4, x5, x6⟩ := kr.res
        by_cases hst : i = tl.length ∨ 65536 < n
        · have hRn : R = min n 65537 := by
            have h1 := hH.out
            rw [← hHR.out]
            exact tr_end (M := 65536) rfl h1 (partsL_take_le tl i) (hst.imp (fun h => by rw [h, List.take_length]) id)
          by_cases hn2 : n ≤ 65536
          · have hil : i = tl.length := by omega
            have hRn2 : R = n := by omega
            subst hRn2
            have e1 : ¬ ((i : Int) < (tl.length : Int)) := by omega
            have e2 : ((R : Nat) : Int) ≤ 65536 := by omega
            clear hst hRn hil
            go_wp2
            go_ret
            refine ⟨?_, hBr⟩
            first | rfl | (simp; omega)
          · have hRn2 : R = 65537 := by omega
            subst hRn2
            have e2 : ¬ ((n : Int) ≤ 65536) := by omega
            have e3 : (65537 : Int) ≤ (n : Int) := by omega
            clear hst hRn
            go_wp2
            all_goals (
              go_ret
              refine ⟨?_, hBr⟩
              first | rfl | (simp; omega))
        · have hil' : i < tl.length := by omega
          have hii : ((i : Nat) : Int) < ((tl.length : Nat) : Int) := by omega
          have hn6 : n ≤ 65536 := by omega
          have hn7 : ((n : Nat) : Int) ≤ 65536 := by omega
          clear hst
          obtain ⟨t, ht⟩ : ∃ t, tl[i]? = some t := ⟨tl[i], by simp [hil']⟩
          obtain ⟨a, k', neg', od', ld', cd', nm', n', ol', ll', cl', ob', lb', cb', rfl, hTv', y0, y1, y2, y3, y4, y5, y6⟩ := htR.get ht hBr
          have hsz : tsz t ≤ N := by have := tsz_mem ht; simp only [tsz] at hN; omega
          have hokt : ∀ p ∈ parts t, p.ok1 := fun p hp => hok2.out p (mem_partsL ht hp)
          have hHt := hid ht
          have hst2 := hid (partsL_take ht)
          clear ht
          go_wp2_with fail
          refine (hIH.out t _ _ hsz hokt hTv').mono ?_
          rintro e w2 ⟨rfl, b2⟩
          have hB2 := below_and hBr (by have := hBr.size; omega) b2
          have k2 := kr.below b2
          have htn : treeN t ≤ 65537 := Nat.min_le_right _ _
          clear hTv' x0 x1 x2 x3 x4 x5 x6 y0 y1 y2 y3 y4 y5 y6 b2 hBr kr hokt
          obtain ⟨q, hq⟩ : ∃ q, treeN t = q := ⟨_, rfl⟩
          rw [hq] at htn ⊢
          have hHq := hid hq
          clear hq
          go_wp2
          go_roundg (tl.length - (i + 1))
          case measure => omega
          case rel =>
            refine ⟨i + 1, n + q, by omega, by go_num, by go_num, by omega, hid ?_, k2, hB2⟩
            exact tr_step (M := 65536) rfl (hH.out.1 hn6) hst2.out hHq.out
  · have hp : parts (.mk tk tneg td tnm tn tl tb) = [.mk tk tneg td tnm tn tl tb] := by simp [parts, hk]
    rw [hp] at hR
    have hR1 : R = 1 := by rw [← hR]; rfl
    subst hR1
    have e4 : (tk == 4) = false := by simp; omega
    have e6 : (tk == 6) = false := by simp; omega
    clear hR hp hk
    go_enter Tryd.func37, Tryd.ntmps37
    go_wp2
    go_ret
    exact ⟨rfl, hB⟩
end Go.Proofs.YtpdoepjnkgffpaaDoor
