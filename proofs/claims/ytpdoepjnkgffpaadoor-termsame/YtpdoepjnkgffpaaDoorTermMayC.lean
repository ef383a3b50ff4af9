/- normed, within, fair, May of package term. -/
import Derived.Test.YtpdoepjnkgffpaaDoorTermLean
namespace Go.Proofs.YtpdoepjnkgffpaaDoor
open Go.ChangeShapes Go.WideShapes Go.ChangeAt Go.RowKit Go.Shelf
set_option linter.unusedSimpArgs false
set_option linter.unusedVariables false
set_option maxRecDepth 2000
abbrev Tabs (w : World) : Prop := Lib.Utf8Tabs 0 1 w
theorem Tabs.below {w w' : World} (h : Tabs w) (hb : Below w.heap.size w w') : Tabs w' := Utf8Tabs_below h hb
def normB (neg : Bool) (d : List Nat) : Bool := (decide (sv neg (gval 4294967296 d) < 0) == neg) && (((glim 4294967296 (sv neg (gval 4294967296 d)).natAbs).length : Int) == (d.length : Int))
set_option maxHeartbeats 1000000 in
theorem normed_w (k : Int) (neg : Bool) (d : List Nat) (od : Option Addr) (cd : Nat) (nm : ByteArray) (n : Int) (ol : Option Addr) (ll cl : Nat) (ob : Option Addr) (lb cb : Nat) (w : World)
    (hd : d.length ≤ 1000000) (hc : d.length ≤ cd) (hm : Lm 4294967296 d) (h1 : Ls (Low w) od (lim d) w) :
    Calls Tryd.prog 96 #[tmV k neg (.slice od d.length cd) nm n (.slice ol ll cl) (.slice ob lb cb)] w fun e w' => e = .returned (.bool (normB neg d)) ∧ Below w.heap.size w w' := by
  obtain ⟨R, hR⟩ : ∃ R, normB neg d = R := ⟨_, rfl⟩
  rw [hR]
  unfold normB at hR
  obtain ⟨Z, hZ⟩ : ∃ Z, sv neg (gval 4294967296 d) = Z := ⟨_, rfl⟩
  rw [hZ] at hR
  have hN : ∀ w', Below w.heap.size w w' → IsN (.agg #[.bool neg, .slice od d.length cd]) Z 1000000 w' := fun w' hb => ⟨neg, od, d, cd, rfl, (h1.zs (fun k hk => hb.block k hk)).lies, hc, hm, hZ, hd⟩
  have hHR := hid hR
  clear h1 hm hc hZ hR
  have hB : Below w.heap.size w (w.alloc (.cells #[.int .i64 k, .bool neg, .slice od d.length cd, .string nm, .int .i64 n, .slice ol ll cl, .slice ob lb cb] 31)) := (Below.refl _ w).alloc (Nat.le_refl _) _
  have kA := Bx.new w (.int .i64 k) (.bool neg) (.slice od d.length cd) (.string nm) (.int .i64 n) (.slice ol ll cl) (.slice ob lb cb) 31
  go_enter Tryd.func96, Tryd.ntmps96
  go_wp2_with fail
  generalize (w.alloc (.cells #[.int .i64 k, .bool neg, .slice od d.length cd, .string nm, .int .i64 n, .slice ol ll cl, .slice ob lb cb] 31)) = w1 at *
  refine (number_w k neg od d.length cd nm n ol ll cl ob lb cb _).mono ?_
  rintro e w2 ⟨rfl, b2⟩
  have hB2 := below_and hB (Nat.le_refl _) b2
  go_wp2_with fail
  refine (norm_w _ Z 1000000 _ (Nat.le_refl _) (hN _ hB2)).mono ?_
  rintro e w3 ⟨sl, rfl, hF, hK, b3⟩
  have hB3 := below_and hB2 (Nat.le_refl _) b3
  have kA3 := (kA.below b2).below b3
  obtain ⟨o5, c5, rfl, _, _, _⟩ := hF.parts
  clear hF hB hB2 kA b2 b3 hN hK
  have kB := Box.new w3 (.bool (decide (Z < 0))) (.slice o5 (glim 4294967296 Z.natAbs).length c5) 72
  have kA4 := kA3.below ((Below.refl _ _).alloc (Nat.le_refl _) (.cells #[.bool (decide (Z < 0)), .slice o5 (glim 4294967296 Z.natAbs).length c5] 72))
  have hB4 := hB3.alloc hB3.size (.cells #[.bool (decide (Z < 0)), .slice o5 (glim 4294967296 Z.natAbs).length c5] 72)
  clear hB3 kA3
  go_upto_region 2 with fail
  generalize (w3.alloc (.cells #[.bool (decide (Z < 0)), .slice o5 (glim 4294967296 Z.natAbs).length c5] 72)) = w4 at *
  obtain ⟨x0, x1, x2, x3, x4, x5, x6, _⟩ := kA4
  obtain ⟨y0, y1, _, _⟩ := kB
  obtain ⟨zb, hzb⟩ : ∃ zb, decide (Z < 0) = zb := ⟨_, rfl⟩
  have hHz := hid hzb
  rw [hzb] at y0 ⊢
  clear hzb
  go_wp2
  all_goals (
    go_ret
    refine ⟨?_, hB4⟩
    have hq := hHR.out
    rw [hHz.out] at hq
    rw [← hq]
    clear hq
    simp [*])
def withinB : Tm → Bool
  | .mk k neg d nm n l b =>
    if k = 0 then decide ((d.length : Int) ≤ 64) && normB neg d
    else if k = 1 then decide (0 ≤ countZ nm.data.toList) && decide (countZ nm.data.toList ≤ 255)
    else if k = 2 ∨ k = 3 then decide (0 ≤ n) && decide (n ≤ 1073741824)
    else if k = 4 then decide ((l.length : Int) ≤ 255)
    else if k = 6 then ((l.length : Int) == 2)
    else if k = 7 then decide ((b.length : Int) ≤ 4096)
    else true
set_option maxHeartbeats 2000000 in
set_option maxRecDepth 4000 in
theorem within_w (T : Tm) (v : Value) (w : World) (hok : T.ok1) (hT : TV (Low w) w T v) (hTa : Tabs w) :
    Calls Tryd.prog 84 #[v] w fun e w' => e = .returned (.bool (withinB T)) ∧ Below w.heap.size w w' := by
  cases T with | mk tk tneg td tnm tn tl tb =>
  obtain ⟨hd, hnm, hl, hb, hm⟩ : td.length ≤ 1000000 ∧ tnm.size ≤ 1000000 ∧ tl.length ≤ 1000000 ∧ tb.length ≤ 1000000 ∧ Lm 4294967296 td := hok
  unfold TV at hT
  obtain ⟨tod, tcd, tol, tcl, tob, tcb, rfl, h1, h2, h3, _, _, htl, htR⟩ := hT
  clear htR
  obtain ⟨R, hR⟩ : ∃ R, withinB (.mk tk tneg td tnm tn tl tb) = R := ⟨_, rfl⟩
  rw [hR]
  have hHR := hid hR
  clear hR
  have hB : Below w.heap.size w (w.alloc (.cells #[.int .i64 tk, .bool tneg, .slice tod td.length tcd, .string tnm, .int .i64 tn, .slice tol tl.length tcl, .slice tob tb.length tcb] 31)) := (Below.refl _ w).alloc (Nat.le_refl _) _
  have kA := Bx.new w (.int .i64 tk) (.bool tneg) (.slice tod td.length tcd) (.string tnm) (.int .i64 tn) (.slice tol tl.length tcl) (.slice tob tb.length tcb) 31
  by_cases h0 : tk = 0
  · subst h0
    have hLs : Ls (Low (w.alloc (.cells #[.int .i64 0, .bool tneg, .slice tod td.length tcd, .string tnm, .int .i64 tn, .slice tol tl.length tcl, .slice tob tb.length tcb] 31))) tod (lim td) (w.alloc (.cells #[.int .i64 0, .bool tneg, .slice tod td.length tcd, .string tnm, .int .i64 tn, .slice tol tl.length tcl, .slice tob tb.length tcb] 31)) := (h1.zs (fun k hk => hB.block k hk)).mono (fun k hk _ => hk)
    obtain ⟨x0, x1, x2, x3, x4, x5, x6, _⟩ := kA
    by_cases h64 : td.length ≤ 64
    · have h64' : ((td.length : Int) ≤ 64) := by omega
      go_enter Tryd.func84, Tryd.ntmps84
      go_wp2_with fail
      refine (normed_w 0 tneg td tod tcd tnm tn tol tl.length tcl tob tb.length tcb _ hd h2 hm hLs).mono ?_
      rintro e w2 ⟨rfl, b2⟩
      have hB2 := below_and hB (Nat.le_refl _) b2
      go_wp2
      go_ret
      exact ⟨by rw [← hHR.out]; simp [withinB, h64'], hB2⟩
    · have h64' : ¬ ((td.length : Int) ≤ 64) := by omega
      go_enter Tryd.func84, Tryd.ntmps84
      go_wp2
      go_ret
      exact ⟨by rw [← hHR.out]; simp only [withinB, if_true]; rw [decide_eq_false (by omega), Bool.false_and]; rfl, hB⟩
  by_cases h1' : tk = 1
  · subst h1'
    have hTa1 := hTa.below hB
    go_enter Tryd.func84, Tryd.ntmps84
    go_wp2_with fail
    generalize (w.alloc (.cells #[.int .i64 1, .bool tneg, .slice tod td.length tcd, .string tnm, .int .i64 tn, .slice tol tl.length tcl, .slice tob tb.length tcb] 31)) = w1 at *
    refine (count_w tnm _ (by omega) hTa1).mono ?_
    rintro e w2 ⟨rfl, b2⟩
    have hB2 := below_and hB (Nat.le_refl _) b2
    obtain ⟨c, hc⟩ : ∃ c, countZ tnm.data.toList = c := ⟨_, rfl⟩
    rw [hc]
    have hHc := hid hc
    clear hc
    go_wp2
    all_goals (
      go_ret
      refine ⟨?_, hB2⟩
      have hq := hHR.out
      simp only [withinB, hHc.out] at hq
      rw [← hq]
      clear hq
      first | (simp [*]; done) | (simp; omega))
  by_cases h2' : tk = 2
  · subst h2'
    go_enter Tryd.func84, Tryd.ntmps84
    go_wp2
    all_goals (
      go_ret
      refine ⟨?_, hB⟩
      first | rfl | (have hq := hHR.out; rw [← hq]; simp [withinB, *]; done) | (have hq := hHR.out; rw [← hq]; simp [withinB]; omega))
  by_cases h3' : tk = 3
  · subst h3'
    go_enter Tryd.func84, Tryd.ntmps84
    go_wp2
    all_goals (
      go_ret
      refine ⟨?_, hB⟩
      first | rfl | (have hq := hHR.out; rw [← hq]; simp [withinB, *]; done) | (have hq := hHR.out; rw [← hq]; simp [withinB]; omega))
  by_cases h4' : tk = 4
  · subst h4'
    go_enter Tryd.func84, Tryd.ntmps84
    go_wp2
    all_goals (
      go_ret
      refine ⟨?_, hB⟩
      first | rfl | (have hq := hHR.out; rw [← hq]; simp [withinB, *]; done) | (have hq := hHR.out; rw [← hq]; simp [withinB]; omega))
  by_cases h6' : tk = 6
  · subst h6'
    go_enter Tryd.func84, Tryd.ntmps84
    go_wp2
    all_goals (
      go_ret
      refine ⟨?_, hB⟩
      first | rfl | (have hq := hHR.out; rw [← hq]; simp [withinB, *]; done) | (have hq := hHR.out; rw [← hq]; simp [withinB]; omega))
  by_cases h7' : tk = 7
  · subst h7'
    go_enter Tryd.func84, Tryd.ntmps84
    go_wp2
    all_goals (
      go_ret
      refine ⟨?_, hB⟩
      first | rfl | (have hq := hHR.out; rw [← hq]; simp [withinB, *]; done) | (have hq := hHR.out; rw [← hq]; simp [withinB]; omega))
  have e0 : (tk == 0) = false := by simp [h0]
  have e1 : (tk == 1) = false := by simp [h1']
  have e2 : (tk == 2) = false := by simp [h2']
  have e3 : (tk == 3) = false := by simp [h3']
  have e4 : (tk == 4) = false := by simp [h4']
  have e6 : (tk == 6) = false := by simp [h6']
  have e7 : (tk == 7) = false := by simp [h7']
  go_enter Tryd.func84, Tryd.ntmps84
  go_wp2
  all_goals (
    go_ret
    refine ⟨?_, hB⟩
    first | rfl | (have hq := hHR.out; rw [← hq]; simp [withinB, *]; done) | (have hq := hHR.out; rw [← hq]; simp [withinB]; omega))
def fairB (T : Tm) : Bool := leanB T && withinB T
set_option maxHeartbeats 1000000 in
theorem fair_w (T : Tm) (v : Value) (w : World) (hok : T.ok1) (hT : TV (Low w) w T v) (hTa : Tabs w) :
    Calls Tryd.prog 63 #[v] w fun e w' => e = .returned (.bool (fairB T)) ∧ Below w.heap.size w w' := by
  have hT0 := hT
  cases hTT : T with | mk tk tneg td tnm tn tl tb =>
  rw [hTT] at hT
  unfold TV at hT
  obtain ⟨tod, tcd, tol, tcl, tob, tcb, rfl, _⟩ := hT
  rw [← hTT]
  clear hTT
  have hB : Below w.heap.size w (w.alloc (.cells #[.int .i64 tk, .bool tneg, .slice tod td.length tcd, .string tnm, .int .i64 tn, .slice tol tl.length tcl, .slice tob tb.length tcb] 31)) := (Below.refl _ w).alloc (Nat.le_refl _) _
  have kA := Bx.new w (.int .i64 tk) (.bool tneg) (.slice tod td.length tcd) (.string tnm) (.int .i64 tn) (.slice tol tl.length tcl) (.slice tob tb.length tcb) 31
  have hTb : ∀ w', Below w.heap.size w w' → TV (Low w') w' T (tmV tk tneg (.slice tod td.length tcd) tnm tn (.slice tol tl.length tcl) (.slice tob tb.length tcb)) := fun w' hb => TV.mono (fun k hk _ => hk) _ _ (TV.zs (fun k hk => hb.block k hk) _ _ hT0)
  clear hT0
  obtain ⟨R, hR⟩ : ∃ R, fairB T = R := ⟨_, rfl⟩
  rw [hR]
  unfold fairB at hR
  have hHR := hid hR
  clear hR
  go_enter Tryd.func63, Tryd.ntmps63
  go_wp2_with fail
  generalize (w.alloc (.cells #[.int .i64 tk, .bool tneg, .slice tod td.length tcd, .string tnm, .int .i64 tn, .slice tol tl.length tcl, .slice tob tb.length tcb] 31)) = w1 at *
  refine (lean_w T _ _ (hTb _ hB)).mono ?_
  rintro e w2 ⟨rfl, b2⟩
  have hB2 := below_and hB (Nat.le_refl _) b2
  obtain ⟨x0, x1, x2, x3, x4, x5, x6, _⟩ := kA.below b2
  obtain ⟨lb, hlb⟩ : ∃ lb, leanB T = lb := ⟨_, rfl⟩
  have hHl := hid hlb
  rw [hlb]
  clear hlb
  cases lb with
  | false =>
    go_wp2
    go_ret
    exact ⟨by rw [← hHR.out, hHl.out]; rfl, hB2⟩
  | true =>
    go_wp2_with fail
    refine (within_w T _ _ hok (hTb _ hB2) (hTa.below hB2)).mono ?_
    rintro e w3 ⟨rfl, b3⟩
    have hB3 := below_and hB2 (Nat.le_refl _) b3
    go_wp2
    go_ret
    exact ⟨by rw [← hHR.out, hHl.out]; simp, hB3⟩
theorem enFair : Enters Tryd.prog 63 := enters_of Tryd.func63 (by kernel_rfl) rfl
/-- whether a term may be -/
def mayB (T : Tm) : Bool := decide (treeN T ≤ 65536) && (parts T).all fairB
set_option maxHeartbeats 1000000 in
theorem May_w (T : Tm) (v : Value) (w : World) (hD : dep T ≤ 1000000) (hok : ∀ p ∈ parts T, p.ok1) (hT : TV (Low w) w T v) (hTa : Tabs w) :
    Calls Tryd.prog 36 #[v] w fun e w' => e = .returned (.bool (mayB T)) ∧ Below w.heap.size w w' := by
  have hT0 := hT
  cases hTT : T with | mk tk tneg td tnm tn tl tb =>
  rw [hTT] at hT
  unfold TV at hT
  obtain ⟨tod, tcd, tol, tcl, tob, tcb, rfl, _⟩ := hT
  rw [← hTT]
  clear hTT
  have hB : Below w.heap.size w (w.alloc (.cells #[.int .i64 tk, .bool tneg, .slice tod td.length tcd, .string tnm, .int .i64 tn, .slice tol tl.length tcl, .slice tob tb.length tcb] 31)) := (Below.refl _ w).alloc (Nat.le_refl _) _
  have kA := Bx.new w (.int .i64 tk) (.bool tneg) (.slice tod td.length tcd) (.string tnm) (.int .i64 tn) (.slice tol tl.length tcl) (.slice tob tb.length tcb) 31
  have hTb : ∀ w', Below w.heap.size w w' → TV (Low w') w' T (tmV tk tneg (.slice tod td.length tcd) tnm tn (.slice tol tl.length tcl) (.slice tob tb.length tcb)) := fun w' hb => TV.mono (fun k hk _ => hk) _ _ (TV.zs (fun k hk => hb.block k hk) _ _ hT0)
  clear hT0
  obtain ⟨R, hR⟩ : ∃ R, mayB T = R := ⟨_, rfl⟩
  rw [hR]
  unfold mayB at hR
  have hHR := hid hR
  clear hR
  go_enter Tryd.func36, Tryd.ntmps36
  go_wp2_with fail
  generalize (w.alloc (.cells #[.int .i64 tk, .bool tneg, .slice tod td.length tcd, .string tnm, .int .i64 tn, .slice tol tl.length tcl, .slice tob tb.length tcb] 31)) = w1 at *
  refine (Tree_w T _ _ hD (hTb _ hB)).mono ?_
  rintro e w2 ⟨rfl, b2⟩
  have hB2 := below_and hB (Nat.le_refl _) b2
  obtain ⟨x0, x1, x2, x3, x4, x5, x6, _⟩ := kA.below b2
  by_cases ht : treeN T ≤ 65536
  · have ht' : ((treeN T : Nat) : Int) ≤ 65536 := by omega
    have hHt := hid ht
    clear ht
    go_wp2_with fail
    refine (every_w 63 #[] enFair (fun _ => False) (fun _ _ => True) (fun k => ((parts T)[k]?.map fairB).getD true) T _ w2 1000000 hD (Nat.le_refl _) ?e1 ?e2 ?e3 ?e4 ?e5).mono ?_
    case e1 => exact TV.mono (fun k hk h => ⟨hk, id⟩) _ _ (hTb _ hB2)
    case e2 => intro k hk; exact hk.elim
    case e3 => trivial
    case e4 => intro _ _ _ _ _; trivial
    case e5 =>
      intro k p x w3 hp hj hx hk _
      have hb3 : Below w2.heap.size w2 w3 := hk.below (Nat.le_refl _) (fun k h => h.elim)
      refine (fair_w p x w3 (hok p (List.mem_of_getElem? hp)) (TV.mono (fun k hk h => hk) _ _ hx) ((hTa.below hB2).below hb3)).mono ?_
      rintro e w4 ⟨rfl, b4⟩
      exact ⟨by rw [hp]; rfl, trivial, Kept.of_below b4⟩
    rintro e w3 ⟨hk, hres⟩
    have hB3 : Below w.heap.size w w3 := below_and hB2 (Nat.le_refl _) (hk.below (Nat.le_refl _) (fun k h => h.elim))
    rcases hres with ⟨rfl, hall, _⟩ | ⟨k, hkl, hall, hno, rfl, _⟩
    · have hRt : R = true := by
        rw [← hHR.out, decide_eq_true hHt.out, Bool.true_and, List.all_eq_true]
        intro p hp
        obtain ⟨j, hj, hje⟩ := List.getElem_of_mem hp
        have := hall j hj
        rw [List.getElem?_eq_getElem hj] at this
        simpa [hje] using this
      subst hRt
      clear hHR
      go_wp2
      go_ret
      exact ⟨rfl, hB3⟩
    · have hRf : R = false := by
        rw [← hHR.out, decide_eq_true hHt.out, Bool.true_and]
        rw [List.getElem?_eq_getElem hkl] at hno
        have h1 : fairB (parts T)[k] = false := by simpa using hno
        cases hq : (parts T).all fairB with
        | false => rfl
        | true =>
          rw [List.all_eq_true] at hq
          rw [hq _ (List.getElem_mem hkl)] at h1
          simp at h1
      subst hRf
      clear hHR
      go_wp2
      go_ret
      exact ⟨rfl, hB3⟩
  · have ht' : ¬ (((treeN T : Nat) : Int) ≤ 65536) := by omega
    have hRf : R = false := by rw [← hHR.out, decide_eq_false ht, Bool.false_and]
    subst hRf
    clear hHR ht
    go_wp2
    go_ret
    exact ⟨rfl, hB2⟩
end Go.Proofs.YtpdoepjnkgffpaaDoor
