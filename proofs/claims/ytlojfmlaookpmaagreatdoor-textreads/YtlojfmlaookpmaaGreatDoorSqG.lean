/- Texts of mine, one behind the other: TermLean, TermMayC, TermDet, TermDet2, TermCp, TermCj. -/
import Derived.Test.YtlojfmlaookpmaaGreatDoorSqF
import Derived.Deep.RegionWith
import Derived.Test.YtlojfmlaookpmaaGreatDoorSqE
set_option linter.unusedSimpArgs false
set_option linter.unusedVariables false
set_option maxRecDepth 2000
open Array renaming getElem?_eq_some_iff → zge
namespace Go.Proofs.YtlojfmlaookpmaaGreatDoor
open Go.ChangeShapes Go.WideShapes Go.ChangeAt Go.RowKit Go.Shelf
def prT : Tm → Tm
 | .mk k neg d nm n l b =>
   if k = 0 then .mk 0 neg d noS 0 [] []
   else if k = 1 then .mk 1 false [] nm 0 [] []
   else if k = 2 then .mk 2 false [] noS n [] []
   else if k = 3 then .mk 3 false [] noS n [] []
   else if k = 4 then .mk 4 false [] noS 0 l []
   else if k = 6 then .mk 6 false [] noS 0 l []
   else if k = 7 then .mk 7 false [] noS 0 [] b
   else .mk 5 false [] noS 0 [] []
theorem prV_tv {Z : Nat → Prop} {w : World} {k : Int} {neg : Bool} {d : List Nat} {nm : ByteArray} {n : Int} {l : List Tm} {b : List Nat} {od ol ob : Option Addr} {cd cl cb : Nat}
   (h : TV Z w (.mk k neg d nm n l b) (tmV k neg (.slice od d.length cd) nm n (.slice ol l.length cl) (.slice ob b.length cb))) :
   TV Z w (prT (.mk k neg d nm n l b)) (prV k neg (.slice od d.length cd) nm n (.slice ol l.length cl) (.slice ob b.length cb)) := by
 unfold TV at h
 obtain ⟨_, _, _, _, _, _, e, h1, h2, h3, h4, h5, h6, h7⟩ := h
 simp only [Value.agg.injEq, Array.mk.injEq, List.cons.injEq, Value.slice.injEq, and_true, true_and] at e
 obtain ⟨⟨rfl, rfl⟩, ⟨rfl, rfl⟩, rfl, rfl⟩ := e
 have z1 : Ls Z none (lim []) w := Ls.nil _ _ _
 have z2 : LsB Z none [] w := LsB.nil _ _ _
 have z3 : Lm 4294967296 [] := Lm.nil _
 have z4 : TR Z w [] none := by unfold TR; trivial
 unfold prT prV
 by_cases h0 : k = 0
 · subst h0; exact ⟨_, _, none, 0, none, 0, rfl, h1, h2, h3, z2, Nat.le_refl _, Nat.le_refl _, z4⟩
 by_cases h1' : k = 1
 · subst h1'; exact ⟨none, 0, none, 0, none, 0, rfl, z1, Nat.le_refl _, z3, z2, Nat.le_refl _, Nat.le_refl _, z4⟩
 by_cases h2' : k = 2
 · subst h2'; exact ⟨none, 0, none, 0, none, 0, rfl, z1, Nat.le_refl _, z3, z2, Nat.le_refl _, Nat.le_refl _, z4⟩
 by_cases h3' : k = 3
 · subst h3'; exact ⟨none, 0, none, 0, none, 0, rfl, z1, Nat.le_refl _, z3, z2, Nat.le_refl _, Nat.le_refl _, z4⟩
 by_cases h4' : k = 4
 · subst h4'; exact ⟨none, 0, _, _, none, 0, rfl, z1, Nat.le_refl _, z3, z2, Nat.le_refl _, h6, h7⟩
 by_cases h6' : k = 6
 · subst h6'; exact ⟨none, 0, _, _, none, 0, rfl, z1, Nat.le_refl _, z3, z2, Nat.le_refl _, h6, h7⟩
 by_cases h7' : k = 7
 · subst h7'; exact ⟨none, 0, none, 0, _, _, rfl, z1, Nat.le_refl _, z3, h4, h5, Nat.le_refl _, z4⟩
 simp only [h0, h1', h2', h3', h4', h6', h7', if_false]
 exact ⟨none, 0, none, 0, none, 0, rfl, z1, Nat.le_refl _, z3, z2, Nat.le_refl _, Nat.le_refl _, z4⟩
def eqF : Tm → Tm → Bool
 | .mk k neg d nm n l b, .mk k' neg' d' nm' n' l' b' => decide (k = k') && (neg == neg') && decide (nm.toList = nm'.toList) && decide (n = n') && decide ((d.length : Int) = (d'.length : Int)) && decide ((l.length : Int) = (l'.length : Int)) && ((b.length : Int) == (b'.length : Int))
def leanB (T : Tm) : Bool := eqF T (prT T)
set_option maxHeartbeats 2000000 in
set_option maxRecDepth 4000 in
theorem lean_w (T : Tm) (v : Value) (w : World) (hT : TV (Low w) w T v) :
   Calls Tryz.prog 62 #[v] w fun e w' => e = .returned (.bool (leanB T)) ∧ Below w.heap.size w w' := by
 cases T with | mk tk tneg td tnm tn tl tb =>
 have hT0 := hT
 unfold TV at hT
 obtain ⟨tod, tcd, tol, tcl, tob, tcb, rfl, _⟩ := hT
 have hp := prV_tv hT0
 clear hT0
 obtain ⟨R, hR⟩ : ∃ R, leanB (.mk tk tneg td tnm tn tl tb) = R := ⟨_, rfl⟩
 rw [hR]
 unfold leanB at hR
 obtain ⟨P, hP⟩ : ∃ P, prT (.mk tk tneg td tnm tn tl tb) = P := ⟨_, rfl⟩
 rw [hP] at hp hR
 clear hP
 cases P with | mk pk pneg pd pnm pn pl pb =>
 unfold TV at hp
 obtain ⟨pod, pcd, pol, pcl, pob, pcb, hpv, _⟩ := hp
 unfold eqF at hR
 have hHR := hid hR
 clear hR
 have hB : Below w.heap.size w (w.alloc (.cells #[.int .i64 tk, .bool tneg, .slice tod td.length tcd, .string tnm, .int .i64 tn, .slice tol tl.length tcl, .slice tob tb.length tcb] 27)) := (Below.refl _ w).alloc (Nat.le_refl _) _
 have kA := Bx.new w (.int .i64 tk) (.bool tneg) (.slice tod td.length tcd) (.string tnm) (.int .i64 tn) (.slice tol tl.length tcl) (.slice tob tb.length tcb) 27
 go_enter Tryz.func62, Tryz.ntmps62
 go_wp2_with fail
 generalize (w.alloc (.cells #[.int .i64 tk, .bool tneg, .slice tod td.length tcd, .string tnm, .int .i64 tn, .slice tol tl.length tcl, .slice tob tb.length tcb] 27)) = w1 at *
 refine (pruned_w tk tneg tod td.length tcd tnm tn tol tl.length tcl tob tb.length tcb _).mono ?_
 rintro e w2 ⟨rfl, b2⟩
 have hB2 := below_and hB (Nat.le_refl _) b2
 have kA2 := kA.below b2
 unfold tmV at hpv
 rw [hpv]
 clear hpv kA hB b2
 have kB := Bx.new w2 (.int .i64 pk) (.bool pneg) (.slice pod pd.length pcd) (.string pnm) (.int .i64 pn) (.slice pol pl.length pcl) (.slice pob pb.length pcb) 27
 have kA3 := kA2.below ((Below.refl _ _).alloc (Nat.le_refl _) (.cells #[.int .i64 pk, .bool pneg, .slice pod pd.length pcd, .string pnm, .int .i64 pn, .slice pol pl.length pcl, .slice pob pb.length pcb] 27))
 have hB3 := hB2.alloc hB2.size (.cells #[.int .i64 pk, .bool pneg, .slice pod pd.length pcd, .string pnm, .int .i64 pn, .slice pol pl.length pcl, .slice pob pb.length pcb] 27)
 clear hB2 kA2
 go_upto_region 2 with fail
 generalize (w2.alloc (.cells #[.int .i64 pk, .bool pneg, .slice pod pd.length pcd, .string pnm, .int .i64 pn, .slice pol pl.length pcl, .slice pob pb.length pcb] 27)) = w3 at *
 obtain ⟨x0, x1, x2, x3, x4, x5, x6, _⟩ := kA3
 obtain ⟨y0, y1, y2, y3, y4, y5, y6, _⟩ := kB
 go_wp2
 all_goals (
   go_ret
   refine ⟨?_, hB3⟩
   have hq := hHR.out
   rw [← hq]
   simp [*])
abbrev Tabs (w : World) : Prop := Lib.Utf8Tabs 0 1 w
theorem Tabs.below {w w' : World} (h : Tabs w) (hb : Below w.heap.size w w') : Tabs w' := Utf8Tabs_below h hb
def normB (neg : Bool) (d : List Nat) : Bool := (decide (sv neg (gval 4294967296 d) < 0) == neg) && (((glim 4294967296 (sv neg (gval 4294967296 d)).natAbs).length : Int) == (d.length : Int))
set_option maxHeartbeats 1000000 in
theorem normed_w (k : Int) (neg : Bool) (d : List Nat) (od : Option Addr) (cd : Nat) (nm : ByteArray) (n : Int) (ol : Option Addr) (ll cl : Nat) (ob : Option Addr) (lb cb : Nat) (w : World)
   (hd : d.length ≤ 1000000) (hc : d.length ≤ cd) (hm : Lm 4294967296 d) (h1 : Ls (Low w) od (lim d) w) :
   Calls Tryz.prog 95 #[tmV k neg (.slice od d.length cd) nm n (.slice ol ll cl) (.slice ob lb cb)] w fun e w' => e = .returned (.bool (normB neg d)) ∧ Below w.heap.size w w' := by
 obtain ⟨R, hR⟩ : ∃ R, normB neg d = R := ⟨_, rfl⟩
 rw [hR]
 unfold normB at hR
 obtain ⟨Z, hZ⟩ : ∃ Z, sv neg (gval 4294967296 d) = Z := ⟨_, rfl⟩
 rw [hZ] at hR
 have hN : ∀ w', Below w.heap.size w w' → IsN (.agg #[.bool neg, .slice od d.length cd]) Z 1000000 w' := fun w' hb => ⟨neg, od, d, cd, rfl, (h1.zs (fun k hk => hb.block k hk)).lies, hc, hm, hZ, hd⟩
 have hHR := hid hR
 clear h1 hm hc hZ hR
 have hB : Below w.heap.size w (w.alloc (.cells #[.int .i64 k, .bool neg, .slice od d.length cd, .string nm, .int .i64 n, .slice ol ll cl, .slice ob lb cb] 27)) := (Below.refl _ w).alloc (Nat.le_refl _) _
 have kA := Bx.new w (.int .i64 k) (.bool neg) (.slice od d.length cd) (.string nm) (.int .i64 n) (.slice ol ll cl) (.slice ob lb cb) 27
 go_enter Tryz.func95, Tryz.ntmps95
 go_wp2_with fail
 generalize (w.alloc (.cells #[.int .i64 k, .bool neg, .slice od d.length cd, .string nm, .int .i64 n, .slice ol ll cl, .slice ob lb cb] 27)) = w1 at *
 refine (number_w k neg od d.length cd nm n ol ll cl ob lb cb _).mono ?_
 rintro e w2 ⟨rfl, b2⟩
 have hB2 := below_and hB (Nat.le_refl _) b2
 go_wp2_with fail
 refine (norm_w _ Z 1000000 _ (Nat.le_refl _) (hN _ hB2)).mono ?_
 rintro e w3 ⟨sl, rfl, hF, hK, b3⟩
 have hB3 := below_and hB2 (Nat.le_refl _) b3
 have kA3 := (kA.below b2).below b3
 obtain ⟨o5, c5, rfl, _, _, _⟩ := hF.parts
 clear hF hB hB2 kA b2 b3 hN hK
 have kB := Box.new w3 (.bool (decide (Z < 0))) (.slice o5 (glim 4294967296 Z.natAbs).length c5) 117
 have kA4 := kA3.below ((Below.refl _ _).alloc (Nat.le_refl _) (.cells #[.bool (decide (Z < 0)), .slice o5 (glim 4294967296 Z.natAbs).length c5] 117))
 have hB4 := hB3.alloc hB3.size (.cells #[.bool (decide (Z < 0)), .slice o5 (glim 4294967296 Z.natAbs).length c5] 117)
 clear hB3 kA3
 go_upto_region 2 with fail
 generalize (w3.alloc (.cells #[.bool (decide (Z < 0)), .slice o5 (glim 4294967296 Z.natAbs).length c5] 117)) = w4 at *
 obtain ⟨x0, x1, x2, x3, x4, x5, x6, _⟩ := kA4
 obtain ⟨y0, y1, _, _⟩ := kB
 obtain ⟨zb, hzb⟩ : ∃ zb, decide (Z < 0) = zb := ⟨_, rfl⟩
 have hHz := hid hzb
 rw [hzb] at y0 ⊢
 clear hzb
 go_wp2
 all_goals (
   go_ret
   refine ⟨?_, hB4⟩
   have hq := hHR.out
   rw [hHz.out] at hq
   rw [← hq]
   clear hq
   simp [*])
def withinB : Tm → Bool
 | .mk k neg d nm n l b =>
   if k = 0 then decide ((d.length : Int) ≤ 64) && normB neg d
   else if k = 1 then decide (0 ≤ countZ nm.data.toList) && decide (countZ nm.data.toList ≤ 255)
   else if k = 2 ∨ k = 3 then decide (0 ≤ n) && decide (n ≤ 1073741824)
   else if k = 4 then decide ((l.length : Int) ≤ 255)
   else if k = 6 then ((l.length : Int) == 2)
   else if k = 7 then decide ((b.length : Int) ≤ 4096)
   else true
set_option maxHeartbeats 2000000 in
set_option maxRecDepth 4000 in
theorem within_w (T : Tm) (v : Value) (w : World) (hok : T.ok1) (hT : TV (Low w) w T v) (hTa : Tabs w) :
   Calls Tryz.prog 63 #[v] w fun e w' => e = .returned (.bool (withinB T)) ∧ Below w.heap.size w w' := by
 cases T with | mk tk tneg td tnm tn tl tb =>
 obtain ⟨hd, hnm, hl, hb, hm⟩ : td.length ≤ 1000000 ∧ tnm.size ≤ 1000000 ∧ tl.length ≤ 1000000 ∧ tb.length ≤ 1000000 ∧ Lm 4294967296 td := hok
 unfold TV at hT
 obtain ⟨tod, tcd, tol, tcl, tob, tcb, rfl, h1, h2, h3, _, _, htl, htR⟩ := hT
 clear htR
 obtain ⟨R, hR⟩ : ∃ R, withinB (.mk tk tneg td tnm tn tl tb) = R := ⟨_, rfl⟩
 rw [hR]
 have hHR := hid hR
 clear hR
 have hB : Below w.heap.size w (w.alloc (.cells #[.int .i64 tk, .bool tneg, .slice tod td.length tcd, .string tnm, .int .i64 tn, .slice tol tl.length tcl, .slice tob tb.length tcb] 27)) := (Below.refl _ w).alloc (Nat.le_refl _) _
 have kA := Bx.new w (.int .i64 tk) (.bool tneg) (.slice tod td.length tcd) (.string tnm) (.int .i64 tn) (.slice tol tl.length tcl) (.slice tob tb.length tcb) 27
 by_cases h0 : tk = 0
 · subst h0
   have hLs : Ls (Low (w.alloc (.cells #[.int .i64 0, .bool tneg, .slice tod td.length tcd, .string tnm, .int .i64 tn, .slice tol tl.length tcl, .slice tob tb.length tcb] 27))) tod (lim td) (w.alloc (.cells #[.int .i64 0, .bool tneg, .slice tod td.length tcd, .string tnm, .int .i64 tn, .slice tol tl.length tcl, .slice tob tb.length tcb] 27)) := (h1.zs (fun k hk => hB.block k hk)).mono (fun k hk _ => hk)
   obtain ⟨x0, x1, x2, x3, x4, x5, x6, _⟩ := kA
   by_cases h64 : td.length ≤ 64
   · have h64' : ((td.length : Int) ≤ 64) := by omega
     go_enter Tryz.func63, Tryz.ntmps63
     go_wp2_with fail
     refine (normed_w 0 tneg td tod tcd tnm tn tol tl.length tcl tob tb.length tcb _ hd h2 hm hLs).mono ?_
     rintro e w2 ⟨rfl, b2⟩
     have hB2 := below_and hB (Nat.le_refl _) b2
     go_wp2
     go_ret
     exact ⟨by rw [← hHR.out]; simp [withinB, h64'], hB2⟩
   · have h64' : ¬ ((td.length : Int) ≤ 64) := by omega
     go_enter Tryz.func63, Tryz.ntmps63
     go_wp2
     go_ret
     exact ⟨by rw [← hHR.out]; simp only [withinB, if_true]; rw [decide_eq_false (by omega), Bool.false_and]; rfl, hB⟩
 by_cases h1' : tk = 1
 · subst h1'
   have hTa1 := hTa.below hB
   go_enter Tryz.func63, Tryz.ntmps63
   go_wp2_with fail
   generalize (w.alloc (.cells #[.int .i64 1, .bool tneg, .slice tod td.length tcd, .string tnm, .int .i64 tn, .slice tol tl.length tcl, .slice tob tb.length tcb] 27)) = w1 at *
   refine (count_w tnm _ (by omega) hTa1).mono ?_
   rintro e w2 ⟨rfl, b2⟩
   have hB2 := below_and hB (Nat.le_refl _) b2
   obtain ⟨c, hc⟩ : ∃ c, countZ tnm.data.toList = c := ⟨_, rfl⟩
   rw [hc]
   have hHc := hid hc
   clear hc
   go_wp2
   all_goals (
     go_ret
     refine ⟨?_, hB2⟩
     have hq := hHR.out
     simp only [withinB, hHc.out] at hq
     rw [← hq]
     clear hq
     first | (simp [*]; done) | (simp; omega))
 by_cases h2' : tk = 2
 · subst h2'
   go_enter Tryz.func63, Tryz.ntmps63
   go_wp2
   all_goals (
     go_ret
     refine ⟨?_, hB⟩
     first | rfl | (have hq := hHR.out; rw [← hq]; simp [withinB, *]; done) | (have hq := hHR.out; rw [← hq]; simp [withinB]; omega))
 by_cases h3' : tk = 3
 · subst h3'
   go_enter Tryz.func63, Tryz.ntmps63
   go_wp2
   all_goals (
     go_ret
     refine ⟨?_, hB⟩
     first | rfl | (have hq := hHR.out; rw [← hq]; simp [withinB, *]; done) | (have hq := hHR.out; rw [← hq]; simp [withinB]; omega))
 by_cases h4' : tk = 4
 · subst h4'
   go_enter Tryz.func63, Tryz.ntmps63
   go_wp2
   all_goals (
     go_ret
     refine ⟨?_, hB⟩
     first | rfl | (have hq := hHR.out; rw [← hq]; simp [withinB, *]; done) | (have hq := hHR.out; rw [← hq]; simp [withinB]; omega))
 by_cases h6' : tk = 6
 · subst h6'
   go_enter Tryz.func63, Tryz.ntmps63
   go_wp2
   all_goals (
     go_ret
     refine ⟨?_, hB⟩
     first | rfl | (have hq := hHR.out; rw [← hq]; simp [withinB, *]; done) | (have hq := hHR.out; rw [← hq]; simp [withinB]; omega))
 by_cases h7' : tk = 7
 · subst h7'
   go_enter Tryz.func63, Tryz.ntmps63
   go_wp2
   all_goals (
     go_ret
     refine ⟨?_, hB⟩
     first | rfl | (have hq := hHR.out; rw [← hq]; simp [withinB, *]; done) | (have hq := hHR.out; rw [← hq]; simp [withinB]; omega))
 have e0 : (tk == 0) = false := by simp [h0]
 have e1 : (tk == 1) = false := by simp [h1']
 have e2 : (tk == 2) = false := by simp [h2']
 have e3 : (tk == 3) = false := by simp [h3']
 have e4 : (tk == 4) = false := by simp [h4']
 have e6 : (tk == 6) = false := by simp [h6']
 have e7 : (tk == 7) = false := by simp [h7']
 go_enter Tryz.func63, Tryz.ntmps63
 go_wp2
 all_goals (
   go_ret
   refine ⟨?_, hB⟩
   first | rfl | (have hq := hHR.out; rw [← hq]; simp [withinB, *]; done) | (have hq := hHR.out; rw [← hq]; simp [withinB]; omega))
def fairB (T : Tm) : Bool := leanB T && withinB T
set_option maxHeartbeats 1000000 in
theorem fair_w (T : Tm) (v : Value) (w : World) (hok : T.ok1) (hT : TV (Low w) w T v) (hTa : Tabs w) :
   Calls Tryz.prog 27 #[v] w fun e w' => e = .returned (.bool (fairB T)) ∧ Below w.heap.size w w' := by
 have hT0 := hT
 cases hTT : T with | mk tk tneg td tnm tn tl tb =>
 rw [hTT] at hT
 unfold TV at hT
 obtain ⟨tod, tcd, tol, tcl, tob, tcb, rfl, _⟩ := hT
 rw [← hTT]
 clear hTT
 have hB : Below w.heap.size w (w.alloc (.cells #[.int .i64 tk, .bool tneg, .slice tod td.length tcd, .string tnm, .int .i64 tn, .slice tol tl.length tcl, .slice tob tb.length tcb] 27)) := (Below.refl _ w).alloc (Nat.le_refl _) _
 have kA := Bx.new w (.int .i64 tk) (.bool tneg) (.slice tod td.length tcd) (.string tnm) (.int .i64 tn) (.slice tol tl.length tcl) (.slice tob tb.length tcb) 27
 have hTb : ∀ w', Below w.heap.size w w' → TV (Low w') w' T (tmV tk tneg (.slice tod td.length tcd) tnm tn (.slice tol tl.length tcl) (.slice tob tb.length tcb)) := fun w' hb => TV.mono (fun k hk _ => hk) _ _ (TV.zs (fun k hk => hb.block k hk) _ _ hT0)
 clear hT0
 obtain ⟨R, hR⟩ : ∃ R, fairB T = R := ⟨_, rfl⟩
 rw [hR]
 unfold fairB at hR
 have hHR := hid hR
 clear hR
 go_enter Tryz.func27, Tryz.ntmps27
 go_wp2_with fail
 generalize (w.alloc (.cells #[.int .i64 tk, .bool tneg, .slice tod td.length tcd, .string tnm, .int .i64 tn, .slice tol tl.length tcl, .slice tob tb.length tcb] 27)) = w1 at *
 refine (lean_w T _ _ (hTb _ hB)).mono ?_
 rintro e w2 ⟨rfl, b2⟩
 have hB2 := below_and hB (Nat.le_refl _) b2
 obtain ⟨x0, x1, x2, x3, x4, x5, x6, _⟩ := kA.below b2
 obtain ⟨lb, hlb⟩ : ∃ lb, leanB T = lb := ⟨_, rfl⟩
 have hHl := hid hlb
 rw [hlb]
 clear hlb
 cases lb with
 | false =>
   go_wp2
   go_ret
   exact ⟨by rw [← hHR.out, hHl.out]; rfl, hB2⟩
 | true =>
   go_wp2_with fail
   refine (within_w T _ _ hok (hTb _ hB2) (hTa.below hB2)).mono ?_
   rintro e w3 ⟨rfl, b3⟩
   have hB3 := below_and hB2 (Nat.le_refl _) b3
   go_wp2
   go_ret
   exact ⟨by rw [← hHR.out, hHl.out]; simp, hB3⟩
theorem enFair : Enters Tryz.prog 27 := enters_of Tryz.func27 (by kernel_rfl) rfl
def mayB (T : Tm) : Bool := decide (treeN T ≤ 65536) && (parts T).all fairB
set_option maxHeartbeats 1000000 in
theorem May_w (T : Tm) (v : Value) (w : World) (hD : dep T ≤ 1000000) (hok : ∀ p ∈ parts T, p.ok1) (hT : TV (Low w) w T v) (hTa : Tabs w) :
   Calls Tryz.prog 15 #[v] w fun e w' => e = .returned (.bool (mayB T)) ∧ Below w.heap.size w w' := by
 have hT0 := hT
 cases hTT : T with | mk tk tneg td tnm tn tl tb =>
 rw [hTT] at hT
 unfold TV at hT
 obtain ⟨tod, tcd, tol, tcl, tob, tcb, rfl, _⟩ := hT
 rw [← hTT]
 clear hTT
 have hB : Below w.heap.size w (w.alloc (.cells #[.int .i64 tk, .bool tneg, .slice tod td.length tcd, .string tnm, .int .i64 tn, .slice tol tl.length tcl, .slice tob tb.length tcb] 27)) := (Below.refl _ w).alloc (Nat.le_refl _) _
 have kA := Bx.new w (.int .i64 tk) (.bool tneg) (.slice tod td.length tcd) (.string tnm) (.int .i64 tn) (.slice tol tl.length tcl) (.slice tob tb.length tcb) 27
 have hTb : ∀ w', Below w.heap.size w w' → TV (Low w') w' T (tmV tk tneg (.slice tod td.length tcd) tnm tn (.slice tol tl.length tcl) (.slice tob tb.length tcb)) := fun w' hb => TV.mono (fun k hk _ => hk) _ _ (TV.zs (fun k hk => hb.block k hk) _ _ hT0)
 clear hT0
 obtain ⟨R, hR⟩ : ∃ R, mayB T = R := ⟨_, rfl⟩
 rw [hR]
 unfold mayB at hR
 have hHR := hid hR
 clear hR
 go_enter Tryz.func15, Tryz.ntmps15
 go_wp2_with fail
 generalize (w.alloc (.cells #[.int .i64 tk, .bool tneg, .slice tod td.length tcd, .string tnm, .int .i64 tn, .slice tol tl.length tcl, .slice tob tb.length tcb] 27)) = w1 at *
 refine (Tree_w T _ _ hD (hTb _ hB)).mono ?_
 rintro e w2 ⟨rfl, b2⟩
 have hB2 := below_and hB (Nat.le_refl _) b2
 obtain ⟨x0, x1, x2, x3, x4, x5, x6, _⟩ := kA.below b2
 by_cases ht : treeN T ≤ 65536
 · have ht' : ((treeN T : Nat) : Int) ≤ 65536 := by omega
   have hHt := hid ht
   clear ht
   go_wp2_with fail
   refine (every_w 27 #[] enFair (fun _ => False) (fun _ _ => True) (fun k => ((parts T)[k]?.map fairB).getD true) T _ w2 1000000 hD (Nat.le_refl _) ?e1 ?e2 ?e3 ?e4 ?e5).mono ?_
   case e1 => exact TV.mono (fun k hk h => ⟨hk, id⟩) _ _ (hTb _ hB2)
   case e2 => intro k hk; exact hk.elim
   case e3 => trivial
   case e4 => intro _ _ _ _ _; trivial
   case e5 =>
     intro k p x w3 hp hj hx hk _
     have hb3 : Below w2.heap.size w2 w3 := hk.below (Nat.le_refl _) (fun k h => h.elim)
     refine (fair_w p x w3 (hok p (List.mem_of_getElem? hp)) (TV.mono (fun k hk h => hk) _ _ hx) ((hTa.below hB2).below hb3)).mono ?_
     rintro e w4 ⟨rfl, b4⟩
     exact ⟨by rw [hp]; rfl, trivial, Kept.of_below b4⟩
   rintro e w3 ⟨hk, hres⟩
   have hB3 : Below w.heap.size w w3 := below_and hB2 (Nat.le_refl _) (hk.below (Nat.le_refl _) (fun k h => h.elim))
   rcases hres with ⟨rfl, hall, _⟩ | ⟨k, hkl, hall, hno, rfl, _⟩
   · have hRt : R = true := by
       rw [← hHR.out, decide_eq_true hHt.out, Bool.true_and, List.all_eq_true]
       intro p hp
       obtain ⟨j, hj, hje⟩ := List.getElem_of_mem hp
       have := hall j hj
       rw [List.getElem?_eq_getElem hj] at this
       simpa [hje] using this
     subst hRt
     clear hHR
     go_wp2
     go_ret
     exact ⟨rfl, hB3⟩
   · have hRf : R = false := by
       rw [← hHR.out, decide_eq_true hHt.out, Bool.true_and]
       rw [List.getElem?_eq_getElem hkl] at hno
       have h1 : fairB (parts T)[k] = false := by simpa using hno
       cases hq : (parts T).all fairB with
       | false => rfl
       | true =>
         rw [List.all_eq_true] at hq
         rw [hq _ (List.getElem_mem hkl)] at h1
         simp at h1
     subst hRf
     clear hHR
     go_wp2
     go_ret
     exact ⟨rfl, hB3⟩
 · have ht' : ¬ (((treeN T : Nat) : Int) ≤ 65536) := by omega
   have hRf : R = false := by rw [← hHR.out, decide_eq_false ht, Bool.false_and]
   subst hRf
   clear hHR ht
   go_wp2
   go_ret
   exact ⟨rfl, hB2⟩
theorem infoT : (Tryz.prog.info? 27).map (fun i => (i.zero, i.size, i.bytes)) = some (some (.agg #[.int .i64 0, .bool false, .slice none 0 0, .string ⟨#[]⟩, .int .i64 0, .slice none 0 0, .slice none 0 0]), 7, 112) := by kernel_rfl
def Lc (o : Option Addr) (xs : List Value) (w : World) : Prop := ∀ (j : Nat) (u : Value), xs[j]? = some u → ∃ a, o = some a ∧ w.cell? (a.add j) = some u
theorem ap_run (t e : TypeId) (i : TypeInfo) (z : Value) (size bytes : Nat) (ht : Tryz.prog.underlying t = some (.slice e)) (hi : Tryz.prog.info? e = some i) (hz : i.zero = some z) (hsize : i.size = size) (hby : i.bytes = bytes) (hzs : z.cells.size = size) (hsz : 0 < size)
   (W : World) (ao : Option Addr) (c n : Nat) (xs : List Value) (hl : xs.length = n * size) (h1 : ∀ u ∈ xs, u.oneCell' = true) (hn : n ≤ 1000000) (hb : n * bytes ≤ 140737488355328) (h : Lc ao xs W) :
   ∃ v' w', (Builtin.append_ #[t, t] t #[.slice none 0 0, .slice ao n c]).run Tryz.prog W = .ok v' w' ∧ w'.ownsRow W.heap.size e size v' n xs ∧ Below W.heap.size W w' := by
 cases ao with
 | none =>
   have hl0 : xs = [] := by
     cases xs with
     | nil => rfl
     | cons x t => obtain ⟨a, ha, _⟩ := h 0 x (by simp); simp at ha
   subst hl0
   have hn0 : n = 0 := by
     rcases Nat.eq_zero_or_pos n with h | h
     · exact h
     · have := Nat.mul_pos h hsz
       simp at hl; omega
   subst hn0
   refine ⟨.slice none 0 0, W, ?_, World.ownsRow_nil _ _ _ _, Below.refl _ _⟩
   simp [Builtin.append_, run_underlying ht, sizeOf, typeInfo, hi, Builtin.lenOf, Builtin.firstCells]
 | some a =>
   obtain ⟨v', w', hrun, hown, hgrow, _⟩ := run_append_own (P := Tryz.prog) W W.heap.size t t e i z size bytes ht hi hz hsize hby hzs hsz (.slice none 0 0) 0 [] (World.ownsRow_nil _ _ _ _) a n c xs hl (fun j u hj => by
       obtain ⟨a', ha, hc⟩ := h j u hj
       obtain rfl := Option.some.inj ha
       exact hc) h1 (by unfold maxLen; omega) (by simpa using hb) (Nat.le_refl _)
   refine ⟨v', w', hrun, by simpa using hown, (Below.refl _ W).grown hgrow (Nat.le_refl _) (fun k hk => by simp [Value.ownBlock] at hk)⟩
def RC (Z : Nat → Prop) (w : World) : List Tm → List Value → Prop
 | [], xs => xs = []
 | t :: l, xs => ∃ k neg od ld cd nm n ol ll cl ob lb cb ys, TV Z w t (tmV k neg (.slice od ld cd) nm n (.slice ol ll cl) (.slice ob lb cb)) ∧ xs = .int .i64 k :: .bool neg :: .slice od ld cd :: .string nm :: .int .i64 n :: .slice ol ll cl :: .slice ob lb cb :: ys ∧ RC Z w l ys
theorem RC.len {Z : Nat → Prop} {w : World} : ∀ {l : List Tm} {xs : List Value}, RC Z w l xs → xs.length = l.length * 7
 | [], xs, h => by have : xs = [] := h; subst this; rfl
 | t :: l, xs, h => by
   obtain ⟨k, neg, od, ld, cd, nm, n, ol, ll, cl, ob, lb, cb, ys, _, rfl, hr⟩ := h
   have := hr.len
   simp only [List.length_cons]; omega
theorem RC.one {Z : Nat → Prop} {w : World} : ∀ {l : List Tm} {xs : List Value}, RC Z w l xs → ∀ u ∈ xs, u.oneCell' = true
 | [], xs, h => by have : xs = [] := h; subst this; simp
 | t :: l, xs, h => by
   obtain ⟨k, neg, od, ld, cd, nm, n, ol, ll, cl, ob, lb, cb, ys, _, rfl, hr⟩ := h
   intro u hu
   simp only [List.mem_cons] at hu
   rcases hu with rfl | rfl | rfl | rfl | rfl | rfl | rfl | hu
   all_goals first | rfl | exact hr.one u hu
theorem RC.zs {Z : Nat → Prop} {w w' : World} (hb : Zs Z w w') : ∀ {l : List Tm} {xs : List Value}, RC Z w l xs → RC Z w' l xs
 | [], xs, h => h
 | t :: l, xs, h => by
   obtain ⟨k, neg, od, ld, cd, nm, n, ol, ll, cl, ob, lb, cb, ys, ht, rfl, hr⟩ := h
   exact ⟨k, neg, od, ld, cd, nm, n, ol, ll, cl, ob, lb, cb, ys, TV.zs hb _ _ ht, rfl, hr.zs hb⟩
theorem TV.form {Z : Nat → Prop} {w : World} {t : Tm} {v : Value} (h : TV Z w t v) : ∃ k neg od ld cd nm n ol ll cl ob lb cb, v = tmV k neg (.slice od ld cd) nm n (.slice ol ll cl) (.slice ob lb cb) := by
 cases t with | mk k neg d nm n l b =>
 unfold TV at h
 obtain ⟨od, cd, ol, cl, ob, cb, rfl, _⟩ := h
 exact ⟨_, _, _, _, _, _, _, _, _, _, _, _, _, rfl⟩
theorem TR.rc {Z : Nat → Prop} {w : World} : ∀ {l : List Tm} {o : Option Addr}, TR Z w l o → ∃ xs, RC Z w l xs ∧ Lc o xs w
 | [], o, _ => ⟨[], rfl, fun j u hj => by simp at hj⟩
 | t :: l, o, h => by
   unfold TR at h
   obtain ⟨a, v, rfl, hZ, hA, hT, hr⟩ := h
   obtain ⟨k, neg, od, ld, cd, nm, n, ol, ll, cl, ob, lb, cb, rfl⟩ := hT.form
   obtain ⟨ys, h1, h2⟩ := TR.rc hr
   obtain ⟨c0, c1, c2, c3, c4, c5, c6⟩ := hA.tm
   refine ⟨_, ⟨k, neg, od, ld, cd, nm, n, ol, ll, cl, ob, lb, cb, ys, hT, rfl, h1⟩, fun j u hj => ⟨a, rfl, ?_⟩⟩
   rcases j with _ | _ | _ | _ | _ | _ | _ | j
   · simp at hj; subst hj; rw [add_zero]; exact c0
   · simp at hj; subst hj; exact c1
   · simp at hj; subst hj; exact c2
   · simp at hj; subst hj; exact c3
   · simp at hj; subst hj; exact c4
   · simp at hj; subst hj; exact c5
   · simp at hj; subst hj; exact c6
   · simp only [List.getElem?_cons_succ] at hj
     obtain ⟨a', ha, hc⟩ := h2 j u hj
     obtain rfl := Option.some.inj ha
     rw [add_add] at hc
     rw [show j + 1 + 1 + 1 + 1 + 1 + 1 + 1 = 7 + j by omega]; exact hc
theorem RC.tr {Z : Nat → Prop} {w : World} : ∀ {l : List Tm} {xs : List Value} {a : Addr}, RC Z w l xs → (l ≠ [] → Z a.block) → (∀ (j : Nat) (u : Value), xs[j]? = some u → w.cell? (a.add j) = some u) → TR Z w l (some a)
 | [], xs, a, _, _, _ => by unfold TR; trivial
 | t :: l, xs, a, h, hZ, hc => by
   obtain ⟨k, neg, od, ld, cd, nm, n, ol, ll, cl, ob, lb, cb, ys, ht, rfl, hr⟩ := h
   unfold TR
   have h0 := hc 0 _ rfl
   rw [add_zero] at h0
   refine ⟨a, _, rfl, hZ (by simp), ⟨_, _, _, _, _, _, _, rfl, h0, hc 1 _ rfl, hc 2 _ rfl, hc 3 _ rfl, hc 4 _ rfl, hc 5 _ rfl, hc 6 _ rfl⟩, ht, RC.tr hr (fun _ => by rw [block_add]; exact hZ (by simp)) (fun j u hj => ?_)⟩
   rw [add_add, show 7 + j = j + 7 by omega]
   exact hc (j + 7) u (by simpa using hj)
theorem Ls.lc {Z : Nat → Prop} {o : Option Addr} {xs : List Value} {w : World} (h : Ls Z o xs w) : Lc o xs w := fun j u hj => by
 obtain ⟨a, h1, _, h2⟩ := h j u hj
 exact ⟨a, h1, h2⟩
theorem own_set {w : World} {B : Nat} {e : TypeId} {s : Nat} {v : Value} {n : Nat} {xs : List Value} (h : w.ownsRow B e s v n xs) {p : Addr} (hp : p.block < B) (x : Value) : (w.setCell p x).ownsRow B e s v n xs := by
 refine ⟨h.1, ?_⟩
 rcases h.2 with hn | ⟨g, cap, cur, hv, hbg, hg, rest⟩
 · exact .inl hn
 · refine .inr ⟨g, cap, cur, hv, hbg, ?_, rest⟩
   rw [Below.heap_setCell _ _ _ _ (fun e => by omega)]; exact hg
theorem own_below {w w' : World} {B : Nat} {e : TypeId} {s : Nat} {v : Value} {n : Nat} {xs : List Value} (h : w.ownsRow B e s v n xs) (hb : Below w.heap.size w w') : w'.ownsRow B e s v n xs := by
 refine ⟨h.1, ?_⟩
 rcases h.2 with hn | ⟨g, cap, cur, hv, hbg, hg, rest⟩
 · exact .inl hn
 · exact .inr ⟨g, cap, cur, hv, hbg, (hb.block g (zge.1 hg).1).trans hg, rest⟩
theorem own_mono {w : World} {B B' : Nat} {e : TypeId} {s : Nat} {v : Value} {n : Nat} {xs : List Value} (h : w.ownsRow B e s v n xs) (hB : B' ≤ B) : w.ownsRow B' e s v n xs := by
 refine ⟨h.1, ?_⟩
 rcases h.2 with hn | ⟨g, cap, cur, hv, hbg, rest⟩
 · exact .inl hn
 · exact .inr ⟨g, cap, cur, hv, by omega, rest⟩
theorem own_sl {w : World} {B : Nat} {e : TypeId} {s : Nat} {v : Value} {m : Nat} {xs : List Value} (h : w.ownsRow B e s v m xs) : ∃ o cap, v = .slice o m cap ∧ m ≤ cap := by
 obtain ⟨h1, ⟨h2, rfl⟩ | ⟨g', cap', cur, h2, _, _, h3, _⟩⟩ := h
 · exact ⟨none, 0, h2, by omega⟩
 · exact ⟨_, cap', h2, h3⟩
theorem wp_append_run {P : Program} {w : World} {o : Oper} {a : Act} {K : Act → World → Prop} {Q : Exit → Act → World → Prop} (s x : Operand) (t : TypeId) (ho : o.op = .call { callee := .builtin .append, args := #[s, x], argTypes := #[t, t] })
   (vs vx v' : Value) (w' : World) (hs : a.eval s = vs) (hx : a.eval x = vx) (hr : (Builtin.append_ #[t, t] o.type #[vs, vx]).run P w = .ok v' w') (h : K (a.put o.dst v') w') : o.wp P a w K Q := by
 unfold Oper.wp execOp
 simp only [ho, resolve, invoke, builtin, Sem.run_bind, Sem.run_pure, Result.andThen_ok, List.map_toArray, List.map_cons, List.map_nil, hs, hx, hr]
 exact h
theorem wpList_append_run {P : Program} {w : World} {ops : Array Oper} {rest : List Oper} {o : Oper} {a : Act} {Q : Exit → Act → World → Prop} (hgd : o.guard = none) (s x : Operand) (t : TypeId) (ho : o.op = .call { callee := .builtin .append, args := #[s, x], argTypes := #[t, t] })
   (vs vx v' : Value) (w' : World) (hs : a.eval s = vs) (hx : a.eval x = vx) (hr : (Builtin.append_ #[t, t] o.type #[vs, vx]).run P w = .ok v' w') (h : wpList P ops Q rest (a.put o.dst v') w') : wpList P ops Q (o :: rest) a w :=
 wpList_plain hgd fun _ hK => wp_append_run s x t ho vs vx v' w' hs hx hr (hK _ _ h)
def Dt (S B : Nat) (w : World) : Tm → Value → Prop
 | .mk k neg d nm n l b, v => ∃ D L Bv xs, v = tmV k neg D nm n L Bv ∧ w.ownsRow B 133 1 D d.length (lim d) ∧ w.ownsRow B 27 7 L l.length xs ∧ RC (fun k => k < S) w l xs ∧ w.ownsRow B 5 1 Bv b.length (bts b) ∧ Lm 4294967296 d ∧ Lm 256 b
theorem prT_ok {T : Tm} (h : T.ok1) : (prT T).ok1 := by
 cases T with | mk k neg d nm n l b =>
 obtain ⟨h1, h2, h3, h4, h5⟩ : d.length ≤ 1000000 ∧ nm.size ≤ 1000000 ∧ l.length ≤ 1000000 ∧ b.length ≤ 1000000 ∧ Lm 4294967296 d := h
 have z3 : Lm 4294967296 [] := Lm.nil _
 have z0 : noS.size ≤ 1000000 := by decide
 unfold prT
 by_cases e0 : k = 0
 · subst e0; exact ⟨h1, z0, by simp, by simp, h5⟩
 by_cases e1 : k = 1
 · subst e1; exact ⟨by simp, h2, by simp, by simp, z3⟩
 by_cases e2 : k = 2
 · subst e2; exact ⟨by simp, z0, by simp, by simp, z3⟩
 by_cases e3 : k = 3
 · subst e3; exact ⟨by simp, z0, by simp, by simp, z3⟩
 by_cases e4 : k = 4
 · subst e4; exact ⟨by simp, z0, h3, by simp, z3⟩
 by_cases e6 : k = 6
 · subst e6; exact ⟨by simp, z0, h3, by simp, z3⟩
 by_cases e7 : k = 7
 · subst e7; exact ⟨by simp, z0, by simp, h4, z3⟩
 simp only [e0, e1, e2, e3, e4, e6, e7, if_false]
 exact ⟨by simp, z0, by simp, by simp, z3⟩
theorem own_keptS {w w' : World} {F : Nat → Prop} {B s : Nat} {e : TypeId} {v : Value} {m : Nat} {xs : List Value} (h : w.ownsRow B e s v m xs) (hk : Kept F w w') (hF : ∀ k, F k → k < B) : w'.ownsRow B e s v m xs := by
 obtain ⟨h1, h2 | ⟨g', cap', cur, h2, hB, hg, rest⟩⟩ := h
 · exact ⟨h1, .inl h2⟩
 · exact ⟨h1, .inr ⟨g', cap', cur, h2, hB, (hk.block g' (zge.1 hg).1 (fun hf => by have := hF _ hf; omega)).trans hg, rest⟩⟩
set_option maxHeartbeats 2000000 in
theorem detached_w (S : Nat) (T : Tm) (v : Value) (w : World) (hS : S ≤ w.heap.size) (hok : T.ok1) (hT : TV (fun k => k < S) w T v) :
   Calls Tryz.prog 137 #[v] w fun e w' => ∃ v', e = .returned v' ∧ Dt S w.heap.size w' (prT T) v' ∧ Below w.heap.size w w' := by
 have hpok := prT_ok hok
 cases T with | mk tk tneg td tnm tn tl tb =>
 have hT0 := hT
 unfold TV at hT
 obtain ⟨tod, tcd, tol, tcl, tob, tcb, rfl, _⟩ := hT
 have hp := prV_tv hT0
 clear hT0 hok
 generalize prT (.mk tk tneg td tnm tn tl tb) = P at *
 cases P with | mk pk pneg pd pnm pn pl pb =>
 obtain ⟨q1, q2, q3, q4, q5⟩ : pd.length ≤ 1000000 ∧ pnm.size ≤ 1000000 ∧ pl.length ≤ 1000000 ∧ pb.length ≤ 1000000 ∧ Lm 4294967296 pd := hpok
 unfold TV at hp
 obtain ⟨pod, pcd, pol, pcl, pob, pcb, hpv, hpD, _, _, hpB, _, _, hpL⟩ := hp
 unfold tmV at hpv
 obtain ⟨kA, kB, hB0, hz0⟩ := bx2 w (.int .i64 tk) (.bool tneg) (.slice tod td.length tcd) (.string tnm) (.int .i64 tn) (.slice tol tl.length tcl) (.slice tob tb.length tcb) (.int .i64 0) (.bool false) nilS (.string noS) (.int .i64 0) nilS nilS 27 27
 obtain ⟨xs, hRC, hLc⟩ := hpL.rc
 obtain ⟨iD, hD0, hD1, hD2, hD3⟩ := info_parts info32u
 obtain ⟨iB, hB1', hB2', hB3', hB4'⟩ := info_parts info8
 obtain ⟨iT, hT1, hT2, hT3, hT4⟩ := info_parts infoT
 clear hpL
 go_enter Tryz.func137, Tryz.ntmps137
 go_wp2_with fail
 generalize ((w.alloc (.cells #[.int .i64 tk, .bool tneg, .slice tod td.length tcd, .string tnm, .int .i64 tn, .slice tol tl.length tcl, .slice tob tb.length tcb] 27)).alloc (.cells #[.int .i64 0, .bool false, .slice none 0 0, .string { data := #[] }, .int .i64 0, .slice none 0 0, .slice none 0 0] 27)) = W0 at *
 refine (pruned_w tk tneg tod td.length tcd tnm tn tol tl.length tcl tob tb.length tcb _).mono ?_
 rintro e w1 ⟨rfl, b1⟩
 rw [hpv]
 clear hpv
 have hBB1 := below_and hB0 (Nat.le_refl _) b1
 have kA1 := kA.below b1
 have kB1 := kB.below b1
 have hz1 : w.heap.size + 2 ≤ w1.heap.size := by have := b1.size; omega
 clear kA kB b1 hB0
 obtain ⟨f0, f1, f2, f3, f4, f5, f6, ff⟩ := id kA1
 go_upto_region 2 with fail
 have kA2 := kA1.put (b0 := .int .i64 pk) (b1 := .bool pneg) (b2 := .slice pod pd.length pcd) (b3 := .string pnm) (b4 := .int .i64 pn) (b5 := .slice pol pl.length pcl) (b6 := .slice pob pb.length pcb)
 have ho2 := only_put w1 w.heap.size (.int .i64 pk) (.bool pneg) (.slice pod pd.length pcd) (.string pnm) (.int .i64 pn) (.slice pol pl.length pcl) (.slice pob pb.length pcb)
 have kB2 := kB1.only ho2 (by omega)
 have hB2 := hBB1.trans (ho2.below (B := w.heap.size) (Nat.le_refl _))
 have hz2 := ho2.2.1
 clear kA1 kB1 f0 f1 f2 f3 f4 f5 f6 ff hBB1 ho2
 generalize (((((((w1.setCell ⟨w.heap.size, 0, none⟩ (.int .i64 pk)).setCell ⟨w.heap.size, 1, none⟩ (.bool pneg)).setCell ⟨w.heap.size, 2, none⟩ (.slice pod pd.length pcd)).setCell ⟨w.heap.size, 3, none⟩ (.string pnm)).setCell ⟨w.heap.size, 4, none⟩ (.int .i64 pn)).setCell ⟨w.heap.size, 5, none⟩ (.slice pol pl.length pcl)).setCell ⟨w.heap.size, 6, none⟩ (.slice pob pb.length pcb)) = w2 at *
 obtain ⟨vD, w3, hr3, hO3, b3⟩ := ap_run 23 133 iD (.int .u32 0) 1 4 Tryz.underlying23 hD0 hD1 hD2 hD3 rfl (by decide) w2 pod pcd pd.length (lim pd) (by simp) (fun u hu => by obtain ⟨x, _, rfl⟩ := List.mem_map.1 hu; rfl) q1 (by omega) (hpD.zs (fun k hk => hB2.block k (Nat.lt_of_lt_of_le hk hS))).lc
 obtain ⟨oD, cD, rfl, _⟩ := own_sl hO3
 have kA3 := kA2.below b3
 have kB3 := kB2.below b3
 have hB3 := below_and hB2 (Nat.le_refl _) b3
 have hz3 : w.heap.size + 2 ≤ w3.heap.size := by have := b3.size; omega
 have hO3' : w3.ownsRow (w.heap.size + 2) 133 1 (.slice oD pd.length cD) pd.length (lim pd) := own_mono hO3 (by omega)
 obtain ⟨f0, f1, f2, f3, f4, f5, f6, ff⟩ := id kA2
 have ff3 := kA3.fr
 have g2 := kA3.c2
 clear b3 hO3
 go_upto_region 3 with (at_builtin; refine wpList_append_run rfl _ _ 23 rfl _ _ _ _ rfl rfl hr3 ?_)
 have kA4 := kA3.s2 (.slice oD pd.length cD)
 have ho4 := only_set w3 w.heap.size 2 (.slice oD pd.length cD)
 have kB4 := kB3.only ho4 (by omega)
 have hB4 := hB3.trans (ho4.below (B := w.heap.size) (Nat.le_refl _))
 have hO4 := own_set hO3' (p := ⟨w.heap.size, 2, none⟩) (by show w.heap.size < w.heap.size + 2; omega) (.slice oD pd.length cD)
 have hz4 : w.heap.size + 2 ≤ (w3.setCell ⟨w.heap.size, 2, none⟩ (.slice oD pd.length cD)).heap.size := by rw [ho4.2.1]; exact hz3
 clear f0 f1 f2 f3 f4 f5 f6 ff ff3 g2 kA3 kB3 kA2 kB2 hr3 ho4 hO3' hB3 hz3 hB2
 generalize (w3.setCell ⟨w.heap.size, 2, none⟩ (.slice oD pd.length cD)) = w4 at *
 obtain ⟨f0, f1, f2, f3, f4, f5, f6, ff⟩ := id kA4
 go_wp2_with fail
 refine (sclone_w pnm _ (by omega)).mono ?_
 rintro e w5 ⟨rfl, b5⟩
 have kA5 := kA4.below b5
 have kB5 := kB4.below b5
 have hB5 := below_and hB4 (Nat.le_refl _) b5
 have hO5 := own_below hO4 b5
 have hz5 : w.heap.size + 2 ≤ w5.heap.size := Nat.le_trans hz4 b5.size
 clear f0 f1 f2 f3 f4 f5 f6 ff kA4 kB4 hB4 hO4 hz4 b5
 obtain ⟨f0, f1, f2, f3, f4, f5, f6, ff⟩ := id kA5
 go_upto_region 4 with fail
 have kA6 := kA5.s3 (.string pnm)
 have ho6 := only_set w5 w.heap.size 3 (.string pnm)
 have kB6 := kB5.only ho6 (by omega)
 have hB6 := hB5.trans (ho6.below (B := w.heap.size) (Nat.le_refl _))
 have hO6 := own_set hO5 (p := ⟨w.heap.size, 3, none⟩) (by show w.heap.size < w.heap.size + 2; omega) (.string pnm)
 have hz6 : w.heap.size + 2 ≤ (w5.setCell ⟨w.heap.size, 3, none⟩ (.string pnm)).heap.size := by rw [ho6.2.1]; exact hz5
 clear f0 f1 f2 f3 f4 f5 f6 ff kA5 kB5 ho6 hO5 hB5 hz5
 generalize (w5.setCell ⟨w.heap.size, 3, none⟩ (.string pnm)) = w6 at *
 have hRC6 := hRC.zs (fun k hk => hB6.block k (Nat.lt_of_lt_of_le hk hS))
 obtain ⟨vL, w7, hr7, hL7, b7⟩ := ap_run 24 27 iT _ 7 112 Tryz.underlying24 hT1 hT2 hT3 hT4 rfl (by decide) w6 pol pcl pl.length xs hRC6.len hRC6.one q3 (by omega) (fun j u hj => by
   obtain ⟨a, ha, hc⟩ := hLc j u hj
   exact ⟨a, ha, (hB6.cell (World.block_lt_of_cell? _ _ hc)).trans hc⟩)
 obtain ⟨oL, cL, rfl, _⟩ := own_sl hL7
 have hRC7 := hRC6.zs (fun k hk => b7.block k (by have := hB6.size; omega))
 have kA7 := kA6.below b7
 have kB7 := kB6.below b7
 have hB7 := below_and hB6 (Nat.le_refl _) b7
 have hO7 := own_below hO6 b7
 have hz7 : w.heap.size + 2 ≤ w7.heap.size := Nat.le_trans hz6 b7.size
 have hL7' : w7.ownsRow (w.heap.size + 2) 27 7 (.slice oL pl.length cL) pl.length xs := own_mono hL7 hz6
 obtain ⟨f0, f1, f2, f3, f4, f5, f6, ff⟩ := id kA6
 have ff3 := kA7.fr
 have g2 := kA7.c5
 clear b7 hL7 hRC6 hLc hRC
 go_upto_region 5 with (at_builtin; refine wpList_append_run rfl _ _ 24 rfl _ _ _ _ rfl rfl hr7 ?_)
 have kA8 := kA7.s5 (.slice oL pl.length cL)
 have ho8 := only_set w7 w.heap.size 5 (.slice oL pl.length cL)
 have kB8 := kB7.only ho8 (by omega)
 have hB8 := hB7.trans (ho8.below (B := w.heap.size) (Nat.le_refl _))
 have hO8 := own_set hO7 (p := ⟨w.heap.size, 5, none⟩) (by show w.heap.size < w.heap.size + 2; omega) (.slice oL pl.length cL)
 have hL8 := own_set hL7' (p := ⟨w.heap.size, 5, none⟩) (by show w.heap.size < w.heap.size + 2; omega) (.slice oL pl.length cL)
 have hRC8 := hRC7.zs (w' := w7.setCell ⟨w.heap.size, 5, none⟩ (.slice oL pl.length cL)) (fun k hk => ho8.2.2 k (by omega))
 have hz8 : w.heap.size + 2 ≤ (w7.setCell ⟨w.heap.size, 5, none⟩ (.slice oL pl.length cL)).heap.size := by rw [ho8.2.1]; exact hz7
 clear f0 f1 f2 f3 f4 f5 f6 ff ff3 g2 kA7 kB7 kA6 kB6 hr7 ho8 hL7' hB7 hz7 hB6 hO7 hRC7 hO6 hz6
 generalize (w7.setCell ⟨w.heap.size, 5, none⟩ (.slice oL pl.length cL)) = w8 at *
 obtain ⟨vB, w9, hr9, hb9, b9⟩ := ap_run 25 5 iB (.int .u8 0) 1 1 Tryz.underlying25 hB1' hB2' hB3' hB4' rfl (by decide) w8 pob pcb pb.length (bts pb) (by simp) (fun u hu => by obtain ⟨x, _, rfl⟩ := List.mem_map.1 hu; rfl) q4 (by omega) (hpB.zs (fun k hk => hB8.block k (Nat.lt_of_lt_of_le hk hS))).1.lc
 obtain ⟨oB, cB, rfl, _⟩ := own_sl hb9
 have hRC9 := hRC8.zs (fun k hk => b9.block k (by have := hB8.size; omega))
 have kA9 := kA8.below b9
 have kB9 := kB8.below b9
 have hB9 := below_and hB8 (Nat.le_refl _) b9
 have hO9 := own_below hO8 b9
 have hL9 := own_below hL8 b9
 have hz9 : w.heap.size + 2 ≤ w9.heap.size := Nat.le_trans hz8 b9.size
 have hb9' : w9.ownsRow (w.heap.size + 2) 5 1 (.slice oB pb.length cB) pb.length (bts pb) := own_mono hb9 hz8
 obtain ⟨f0, f1, f2, f3, f4, f5, f6, ff⟩ := id kA8
 have ff3 := kA9.fr
 have g2 := kA9.c6
 clear b9 hb9 hRC8
 go_upto_region 6 with (at_builtin; refine wpList_append_run rfl _ _ 25 rfl _ _ _ _ rfl rfl hr9 ?_)
 have kA10 := kA9.s6 (.slice oB pb.length cB)
 have ho10 := only_set w9 w.heap.size 6 (.slice oB pb.length cB)
 have kB10 := kB9.only ho10 (by omega)
 have hB10 := hB9.trans (ho10.below (B := w.heap.size) (Nat.le_refl _))
 have hO10 := own_set hO9 (p := ⟨w.heap.size, 6, none⟩) (by show w.heap.size < w.heap.size + 2; omega) (.slice oB pb.length cB)
 have hL10 := own_set hL9 (p := ⟨w.heap.size, 6, none⟩) (by show w.heap.size < w.heap.size + 2; omega) (.slice oB pb.length cB)
 have hb10 := own_set hb9' (p := ⟨w.heap.size, 6, none⟩) (by show w.heap.size < w.heap.size + 2; omega) (.slice oB pb.length cB)
 have hRC10 := hRC9.zs (w' := w9.setCell ⟨w.heap.size, 6, none⟩ (.slice oB pb.length cB)) (fun k hk => ho10.2.2 k (by omega))
 have hz10 : w.heap.size + 2 ≤ (w9.setCell ⟨w.heap.size, 6, none⟩ (.slice oB pb.length cB)).heap.size := by rw [ho10.2.1]; exact hz9
 clear f0 f1 f2 f3 f4 f5 f6 ff ff3 g2 kA9 kB9 kA8 kB8 hr9 ho10 hb9' hB9 hz9 hB8 hO9 hL9 hRC9 hO8 hL8 hz8
 generalize (w9.setCell ⟨w.heap.size, 6, none⟩ (.slice oB pb.length cB)) = wA at *
 obtain ⟨f0, f1, f2, f3, f4, f5, f6, ff⟩ := id kA10
 obtain ⟨g0, g1, g2, g3, g4, g5, g6, gf⟩ := id kB10
 have hput := kB10.put (b0 := .int .i64 pk) (b1 := .bool pneg) (b2 := .slice oD pd.length cD) (b3 := .string pnm) (b4 := .int .i64 pn) (b5 := .slice oL pl.length cL) (b6 := .slice oB pb.length cB)
 have hon := only_put wA (w.heap.size + 1) (.int .i64 pk) (.bool pneg) (.slice oD pd.length cD) (.string pnm) (.int .i64 pn) (.slice oL pl.length cL) (.slice oB pb.length cB)
 obtain ⟨r0, r1, r2, r3, r4, r5, r6, _⟩ := hput
 go_wp2
 have hkp : Kept (fun k => k = w.heap.size + 1) wA (((((((wA.setCell ⟨w.heap.size + 1, 0, none⟩ (.int .i64 pk)).setCell ⟨w.heap.size + 1, 1, none⟩ (.bool pneg)).setCell ⟨w.heap.size + 1, 2, none⟩ (.slice oD pd.length cD)).setCell ⟨w.heap.size + 1, 3, none⟩ (.string pnm)).setCell ⟨w.heap.size + 1, 4, none⟩ (.int .i64 pn)).setCell ⟨w.heap.size + 1, 5, none⟩ (.slice oL pl.length cL)).setCell ⟨w.heap.size + 1, 6, none⟩ (.slice oB pb.length cB)) := ⟨hon.1.os, hon.1.tape, hon.1.output, hon.1.size, fun k hk hn => hon.2.2 k hn⟩
 refine bodyPost_ret (v := tmV pk pneg (.slice oD pd.length cD) pnm pn (.slice oL pl.length cL) (.slice oB pb.length cB)) (by simp [results, Tryz.results137, go_sem, r0, r1, r2, r3, r4, r5, r6]) rfl ⟨_, rfl, ⟨_, _, _, xs, rfl, ?_, ?_, ?_, ?_, q5, hpB.2⟩, hB10.trans (hon.below (B := w.heap.size) (by omega))⟩
 · exact own_mono (B := w.heap.size + 2) (own_keptS hO10 hkp (fun k hk => by omega)) (by omega)
 · exact own_mono (B := w.heap.size + 2) (own_keptS hL10 hkp (fun k hk => by omega)) (by omega)
 · exact hRC10.zs (fun k hk => hon.2.2 k (by omega))
 · exact own_mono (B := w.heap.size + 2) (own_keptS hb10 hkp (fun k hk => by omega)) (by omega)
mutual
def cpT : Tm → Tm
 | .mk k neg d nm n l b => if k = 4 ∨ k = 6 then .mk k false [] noS 0 (cpL l) [] else prT (.mk k neg d nm n [] b)
def cpL : List Tm → List Tm
 | [] => []
 | t :: l => cpT t :: cpL l
end
theorem cpL_len : ∀ l : List Tm, (cpL l).length = l.length
 | [] => rfl
 | t :: l => by simp only [cpL, List.length_cons, cpL_len l]
theorem cpT_eq {T : Tm} {k : Int} {neg : Bool} {d : List Nat} {nm : ByteArray} {n : Int} {l : List Tm} {b : List Nat} (h : prT T = .mk k neg d nm n l b) : cpT T = .mk k neg d nm n (cpL l) b ∧ l = T.kids := by
 cases T with | mk k' neg' d' nm' n' l' b' =>
 unfold cpT Tm.kids
 by_cases h4 : k' = 4
 · subst h4
   simp only [prT] at h
   simp at h
   obtain ⟨rfl, rfl, rfl, rfl, rfl, rfl, rfl⟩ := h
   simp
 by_cases h6 : k' = 6
 · subst h6
   simp only [prT] at h
   simp at h
   obtain ⟨rfl, rfl, rfl, rfl, rfl, rfl, rfl⟩ := h
   simp
 simp only [h4, h6, or_self, if_false]
 have e : prT (.mk k' neg' d' nm' n' l' b') = prT (.mk k' neg' d' nm' n' [] b') := by simp only [prT, h4, h6, if_false]
 rw [e] at h
 have hl : l = [] := by
   unfold prT at h
   by_cases e0 : k' = 0
   · subst e0; simp at h; exact h.2.2.2.2.2.1
   by_cases e1 : k' = 1
   · subst e1; simp at h; exact h.2.2.2.2.2.1
   by_cases e2 : k' = 2
   · subst e2; simp at h; exact h.2.2.2.2.2.1
   by_cases e3 : k' = 3
   · subst e3; simp at h; exact h.2.2.2.2.2.1
   by_cases e7 : k' = 7
   · subst e7; simp at h; exact h.2.2.2.2.2.1
   simp only [e0, e1, e2, e3, h4, h6, e7, if_false] at h
   simp at h; exact h.2.2.2.2.2.1
 subst hl
 exact ⟨by rw [h]; simp [cpL], rfl⟩
def Zw (S : Nat) (w : World) : Nat → Prop := fun k => S ≤ k ∧ ∀ j, w.frozen? ⟨k, j, none⟩ = false
theorem zw_of {S : Nat} {w : World} {k : Nat} {c : Array Value} {t : TypeId} (hS : S ≤ k) (h : w.heap[k]? = some (.cells c t (0, 0))) : Zw S w k := ⟨hS, fun j => by simp [World.frozen?, h]⟩
def RowTB (w : World) (g : Nat) (ys : List Value) : Prop := ∃ cur, w.heap[g]? = some (.cells cur 27 (0, 0)) ∧ cur.toList.take ys.length = ys
theorem RowTB.cell {w : World} {g : Nat} {ys : List Value} (h : RowTB w g ys) (j : Nat) (u : Value) (hj : ys[j]? = some u) : w.cell? ⟨g, j, none⟩ = some u := by
 obtain ⟨cur, hg, ht⟩ := h
 have hc : w.cell? ⟨g, j, none⟩ = cur[j]? := by simp [World.cell?, hg]
 rw [hc, ← Array.getElem?_toList]
 have hjl : j < ys.length := (List.getElem?_eq_some_iff.1 hj).1
 have := congrArg (·[j]?) ht
 simp only [List.getElem?_take] at this
 rw [if_pos hjl] at this
 rw [this, hj]
structure Pr where
 g : Nat
 c : Nat
 l : List Tm
def Pr.val (r : Pr) : Value := .slice (some ⟨r.g, 0, none⟩) r.l.length r.c
def Done (S : Nat) (w : World) (r : Pr) : Prop := ∃ ys, S ≤ r.g ∧ RC (Zw S w) w (cpL r.l) ys ∧ RowTB w r.g ys
theorem Done.tr {S : Nat} {w : World} {r : Pr} (h : Done S w r) : TR (Zw S w) w (cpL r.l) (some ⟨r.g, 0, none⟩) := by
 obtain ⟨ys, hS, h1, h2⟩ := h
 refine h1.tr (fun _ => ?_) (fun j u hj => ?_)
 · obtain ⟨cur, hg, _⟩ := h2
   exact zw_of hS hg
 · rw [addr_add, Nat.zero_add]; exact h2.cell j u hj
def Pend (S : Nat) (w : World) (r : Pr) : Prop := S ≤ r.g ∧ ∃ xs, RC (fun k => k < S) w r.l xs ∧ w.ownsRow S 27 7 r.val r.l.length xs
theorem own_blk {w : World} {B s : Nat} {e : TypeId} {g n c : Nat} {xs : List Value} (h : w.ownsRow B e s (.slice (some ⟨g, 0, none⟩) n c) n xs) : ∃ cur, w.heap[g]? = some (.cells cur e (0, 0)) ∧ B ≤ g ∧ cur.toList.take xs.length = xs ∧ n ≤ c := by
 obtain ⟨h1, ⟨h2, _⟩ | ⟨g', cap', cur, h2, hB, hg, hn, hm, hs, ht⟩⟩ := h
 · simp at h2
 · simp only [Value.slice.injEq, Option.some.injEq, Addr.mk.injEq, and_true, true_and] at h2
   obtain ⟨rfl, rfl⟩ := h2
   exact ⟨cur, hg, hB, by rw [h1]; exact ht, hn⟩
theorem Pend.blk {S : Nat} {w : World} {r : Pr} (h : Pend S w r) : ∃ cur, w.heap[r.g]? = some (.cells cur 27 (0, 0)) := by
 obtain ⟨_, xs, _, h2⟩ := h
 obtain ⟨cur, hg, _⟩ := own_blk h2
 exact ⟨cur, hg⟩
theorem Pend.kept {S : Nat} {M : Nat → Prop} {w w' : World} {r : Pr} (h : Pend S w r) (hk : Kept M w w') (hM : ∀ k, M k → S ≤ k) (hr : ¬ M r.g) (hS : S ≤ w.heap.size) : Pend S w' r := by
 obtain ⟨cur, hg⟩ := h.blk
 obtain ⟨h1, xs, h2, h3⟩ := h
 refine ⟨h1, xs, h2.zs (fun k hk' => hk.block k (by omega) (fun hm => by have := hM k hm; omega)), ?_⟩
 refine ⟨h3.1, ?_⟩
 rcases h3.2 with hn | ⟨g', cap', cur', hv, hB, hg', rest⟩
 · exact .inl hn
 · have : g' = r.g := by unfold Pr.val at hv; simp at hv; exact hv.1.symm
   subst this
   exact .inr ⟨r.g, cap', cur', hv, hB, (hk.block r.g (zge.1 hg').1 hr).trans hg', rest⟩
def FpOk (S : Nat) (w : World) (Fp : Nat → Prop) (st : List Pr) : Prop := ∀ k, Fp k → S ≤ k ∧ (∃ c t, w.heap[k]? = some (.cells c t (0, 0)) ∧ t ≠ 24) ∧ ∀ r ∈ st, r.g ≠ k
def mu : List Pr → Nat
 | [] => 0
 | r :: st => (partsL r.l).length + 1 + mu st
theorem mu_len : ∀ st : List Pr, st.length ≤ mu st
 | [] => Nat.le_refl _
 | r :: st => by have := mu_len st; simp only [mu, List.length_cons]; omega
theorem own_ls {S B : Nat} {w w' : World} {e : TypeId} {o : Option Addr} {n c : Nat} {xs : List Value} (h : w.ownsRow B e 1 (.slice o n c) n xs) (hS : S ≤ B) (hk : ∀ g, o = some ⟨g, 0, none⟩ → w'.heap[g]? = w.heap[g]?) : Ls (Zw S w') o xs w' := by
 intro j u hj
 obtain ⟨h1, ⟨h2, h3⟩ | ⟨g', cap', cur, h2, hB, hg, hn, hm, hs, ht⟩⟩ := h
 · subst h3; simp at h1; subst h1; simp at hj
 · simp only [Value.slice.injEq, true_and] at h2
   obtain ⟨rfl, rfl⟩ := h2
   have hg' := (hk g' rfl).trans hg
   refine ⟨_, rfl, zw_of (show S ≤ g' by omega) hg', ?_⟩
   rw [addr_add, Nat.zero_add]
   have hc : w'.cell? ⟨g', j, none⟩ = cur[j]? := by simp [World.cell?, hg']
   rw [hc, ← Array.getElem?_toList]
   have hjl : j < xs.length := (List.getElem?_eq_some_iff.1 hj).1
   have := congrArg (·[j]?) ht
   simp only [List.getElem?_take, ← h1] at this
   rw [if_pos hjl] at this
   rw [this, hj]
theorem own_put7 {w : World} {S g n c i : Nat} {pre rest : List Value} {a0 a1 a2 a3 a4 a5 a6 b0 b1 b2 b3 b4 b5 b6 : Value} (h : w.ownsRow S 27 7 (.slice (some ⟨g, 0, none⟩) n c) n (pre ++ (a0 :: a1 :: a2 :: a3 :: a4 :: a5 :: a6 :: rest))) (hp : pre.length = i) :
   (((((((w.setCell ⟨g, i, none⟩ b0).setCell ⟨g, i + 1, none⟩ b1).setCell ⟨g, i + 2, none⟩ b2).setCell ⟨g, i + 3, none⟩ b3).setCell ⟨g, i + 4, none⟩ b4).setCell ⟨g, i + 5, none⟩ b5).setCell ⟨g, i + 6, none⟩ b6).ownsRow S 27 7 (.slice (some ⟨g, 0, none⟩) n c) n (pre ++ (b0 :: b1 :: b2 :: b3 :: b4 :: b5 :: b6 :: rest)) := by
 subst hp
 have h0 := (h.stored pre.length b0).1
 have h1 := (h0.stored (pre.length + 1) b1).1
 have h2 := (h1.stored (pre.length + 2) b2).1
 have h3 := (h2.stored (pre.length + 3) b3).1
 have h4 := (h3.stored (pre.length + 4) b4).1
 have h5 := (h4.stored (pre.length + 5) b5).1
 have h6 := (h5.stored (pre.length + 6) b6).1
 simpa [List.set_append_right] using h6
def Wi (S : Nat) (w : World) (Fp : Nat → Prop) (st : List Pr) (g : Nat) (pre : List Value) (l : List Tm) (G : World → Prop) : Prop :=
 ∀ w', (∀ k, Fp k → w'.heap[k]? = w.heap[k]?) → (∀ r ∈ st, Done S w' r) → ∀ ys, RC (Zw S w') w' (cpL l) ys → RowTB w' g (pre ++ ys) → G w'
def Wo (S : Nat) (w : World) (Fp : Nat → Prop) (st : List Pr) (G : World → Prop) : Prop :=
 ∀ w', (∀ k, Fp k → w'.heap[k]? = w.heap[k]?) → (∀ r ∈ st, Done S w' r) → G w'
theorem Wi.move {S : Nat} {w w2 : World} {Fp : Nat → Prop} {st : List Pr} {g : Nat} {pre : List Value} {l : List Tm} {G : World → Prop} (h : Wi S w Fp st g pre l G) (hF : ∀ k, Fp k → w2.heap[k]? = w.heap[k]?) : Wi S w2 Fp st g pre l G :=
 fun w' h1 h2 ys h3 h4 => h w' (fun k hk => (h1 k hk).trans (hF k hk)) h2 ys h3 h4
theorem Wo.move {S : Nat} {w w2 : World} {Fp : Nat → Prop} {st : List Pr} {G : World → Prop} (h : Wo S w Fp st G) (hF : ∀ k, Fp k → w2.heap[k]? = w.heap[k]?) : Wo S w2 Fp st G :=
 fun w' h1 h2 => h w' (fun k hk => (h1 k hk).trans (hF k hk)) h2
theorem Wo.pop {S : Nat} {w : World} {Fp : Nat → Prop} {r : Pr} {st : List Pr} {G : World → Prop} (h : Wo S w Fp (r :: st) G) (hS : S ≤ r.g) : Wi S w Fp st r.g [] r.l G :=
 fun w' h1 h2 ys h3 h4 => h w' h1 (fun q hq => by
   rcases List.mem_cons.1 hq with rfl | hq
   · exact ⟨ys, hS, h3, h4⟩
   · exact h2 q hq)
theorem Wi.fin {S : Nat} {w : World} {Fp : Nat → Prop} {st : List Pr} {g : Nat} {pre : List Value} {G : World → Prop} (h : Wi S w Fp st g pre [] G) (hr : RowTB w g pre) : Wo S w (fun k => Fp k ∨ k = g) st G :=
 fun w' h1 h2 => h w' (fun k hk => h1 k (.inl hk)) h2 [] rfl (by
   obtain ⟨cur, hg, ht⟩ := hr
   rw [List.append_nil]
   exact ⟨cur, (h1 g (.inr rfl)).trans hg, ht⟩)
def isAt (o : Option Addr) (k : Nat) : Prop := o = some ⟨k, 0, none⟩
theorem wi_step {S B : Nat} {w w2 w3 : World} {Fp : Nat → Prop} {st : List Pr} {g : Nat} {pre : List Value} {t : Tm} {l' : List Tm} {G : World → Prop} {k : Int} {neg : Bool} {nm : ByteArray} {n : Int} {oD oL oB : Option Addr} {lD cD lL cL lB cB : Nat}
   (hW : Wi S w Fp st g pre (t :: l') G) (hB : S ≤ B) (hDt : Dt S B w2 (prT t) (tmV k neg (.slice oD lD cD) nm n (.slice oL lL cL) (.slice oB lB cB)))
   (hF : ∀ k, Fp k → w3.heap[k]? = w.heap[k]?) (hN : ∀ k, B ≤ k → k < w2.heap.size → w3.heap[k]? = w2.heap[k]?) :
   lL = t.kids.length ∧ (t.kids = [] → Wi S w3 (fun k => Fp k ∨ isAt oD k ∨ isAt oB k) st g (pre ++ [.int .i64 k, .bool neg, .slice oD lD cD, .string nm, .int .i64 n, .slice oL lL cL, .slice oB lB cB]) l' G) ∧
   (t.kids ≠ [] → ∃ gL, oL = some ⟨gL, 0, none⟩ ∧ B ≤ gL ∧ (∃ xs, RC (fun k => k < S) w2 t.kids xs ∧ w2.ownsRow B 27 7 (.slice oL lL cL) t.kids.length xs) ∧ Wi S w3 (fun k => Fp k ∨ isAt oD k ∨ isAt oB k) (⟨gL, cL, t.kids⟩ :: st) g (pre ++ [.int .i64 k, .bool neg, .slice oD lD cD, .string nm, .int .i64 n, .slice oL lL cL, .slice oB lB cB]) l' G) := by
 obtain ⟨P, hP⟩ : ∃ P, prT t = P := ⟨_, rfl⟩
 rw [hP] at hDt
 cases P with | mk pk pneg pd pnm pn pl pb =>
 obtain ⟨hc, hkk⟩ := cpT_eq hP
 unfold Dt at hDt
 obtain ⟨D, L, Bv, xs, e, hD, hL, hRC, hBv, hLm, hLb⟩ := hDt
 simp only [Value.agg.injEq, Array.mk.injEq, List.cons.injEq, Value.int.injEq, Value.bool.injEq, Value.string.injEq, and_true, true_and] at e
 obtain ⟨rfl, rfl, rfl, rfl, rfl, rfl, rfl⟩ := e
 obtain ⟨_, _, e1, hcD⟩ := own_sl hD
 obtain ⟨_, _, e2, hcL⟩ := own_sl hL
 obtain ⟨_, _, e3, hcB⟩ := own_sl hBv
 simp only [Value.slice.injEq] at e1 e2 e3
 obtain ⟨rfl, rfl, rfl⟩ := e1
 obtain ⟨rfl, rfl, rfl⟩ := e2
 obtain ⟨rfl, rfl, rfl⟩ := e3
 subst hkk
 have fin : ∀ w', (∀ k, Fp k ∨ isAt oD k ∨ isAt oB k → w'.heap[k]? = w3.heap[k]?) → TR (Zw S w') w' (cpL t.kids) oL → TV (Zw S w') w' (cpT t) (tmV k neg (.slice oD pd.length cD) nm n (.slice oL t.kids.length cL) (.slice oB pb.length cB)) := by
   intro w' hFp hTR
   rw [hc]
   unfold TV
   refine ⟨oD, cD, oL, cL, oB, cB, by rw [cpL_len], own_ls hD hB (fun g' hg' => ?_), hcD, hLm, ⟨own_ls hBv hB (fun g' hg' => ?_), hLb⟩, hcB, by rw [cpL_len]; exact hcL, hTR⟩
   · subst hg'
     obtain ⟨cur, hq, hBg, _⟩ := own_blk hD
     exact (hFp g' (.inr (.inl rfl))).trans (hN g' hBg (zge.1 hq).1)
   · subst hg'
     obtain ⟨cur, hq, hBg, _⟩ := own_blk hBv
     exact (hFp g' (.inr (.inr rfl))).trans (hN g' hBg (zge.1 hq).1)
 refine ⟨rfl, fun h0 => ?_, fun h0 => ?_⟩
 · intro w' hFp hDone ys hR hRow
   refine hW w' (fun k hk => (hFp k (.inl hk)).trans (hF k hk)) hDone _ ⟨_, _, _, _, _, _, _, _, _, _, _, _, _, ys, fin w' hFp (by rw [h0]; unfold cpL TR; trivial), rfl, hR⟩ ?_
   simpa using hRow
 · obtain ⟨h1, ⟨h2, h3⟩ | ⟨gL, cap', cur, h2, hBg, hg, rest⟩⟩ := id hL
   · exact absurd (List.eq_nil_of_length_eq_zero h3) h0
   · simp only [Value.slice.injEq, true_and] at h2
     obtain ⟨rfl, rfl⟩ := h2
     refine ⟨gL, rfl, hBg, ⟨xs, hRC, hL⟩, ?_⟩
     intro w' hFp hDone ys hR hRow
     refine hW w' (fun k hk => (hFp k (.inl hk)).trans (hF k hk)) (fun r hr => hDone r (List.mem_cons_of_mem _ hr)) _ ⟨_, _, _, _, _, _, _, _, _, _, _, _, _, ys, fin w' hFp (hDone ⟨gL, cL, t.kids⟩ (by simp)).tr, rfl, hR⟩ ?_
     simpa using hRow
theorem rowB_of {w : World} {S g n c : Nat} {xs : List Value} (h : w.ownsRow S 27 7 (.slice (some ⟨g, 0, none⟩) n c) n xs) : RowTB w g xs := by
 obtain ⟨cur, hg, _, ht, _⟩ := own_blk h
 exact ⟨cur, hg, ht⟩
theorem partsL_len : ∀ l : List Tm, l.length ≤ (partsL l).length
 | [] => Nat.le_refl _
 | t :: l => by
   have := partsL_len l
   simp only [partsL, parts_eq, List.length_cons, List.length_append]; omega
theorem own_cells7 {w : World} {S g n c i : Nat} {pre rest : List Value} {a0 a1 a2 a3 a4 a5 a6 : Value} (h : w.ownsRow S 27 7 (.slice (some ⟨g, 0, none⟩) n c) n (pre ++ (a0 :: a1 :: a2 :: a3 :: a4 :: a5 :: a6 :: rest))) (hp : pre.length = i) :
   w.cell? ⟨g, i, none⟩ = some a0 ∧ w.cell? ⟨g, i + 1, none⟩ = some a1 ∧ w.cell? ⟨g, i + 2, none⟩ = some a2 ∧ w.cell? ⟨g, i + 3, none⟩ = some a3 ∧ w.cell? ⟨g, i + 4, none⟩ = some a4 ∧ w.cell? ⟨g, i + 5, none⟩ = some a5 ∧ w.cell? ⟨g, i + 6, none⟩ = some a6 := by
 subst hp
 have hr := rowB_of h
 have q : ∀ (j : Nat) (u : Value), (a0 :: a1 :: a2 :: a3 :: a4 :: a5 :: a6 :: rest)[j]? = some u → w.cell? ⟨g, pre.length + j, none⟩ = some u := fun j u hj => hr.cell _ _ (by rw [List.getElem?_append_right (by omega)]; simpa using hj)
 exact ⟨q 0 _ rfl, q 1 _ rfl, q 2 _ rfl, q 3 _ rfl, q 4 _ rfl, q 5 _ rfl, q 6 _ rfl⟩
theorem own_fr {w : World} {S s g n c : Nat} {e : TypeId} {xs : List Value} (h : w.ownsRow S e s (.slice (some ⟨g, 0, none⟩) n c) n xs) (j : Nat) : w.frozen? ⟨g, j, none⟩ = false := by
 obtain ⟨cur, hg, _⟩ := own_blk h
 simp [World.frozen?, hg]
structure CI (S : Nat) (w : World) (Fp : Nat → Prop) (st : List Pr) (G : World → Prop) : Prop where
 nd : (st.map Pr.g).Nodup
 pend : ∀ r ∈ st, Pend S w r
 fp : FpOk S w Fp st
 wo : Wo S w Fp st G
 ok : ∀ r ∈ st, ∀ p ∈ partsL r.l, p.ok1
structure CJ (S : Nat) (w : World) (Fp : Nat → Prop) (st : List Pr) (g c : Nat) (l : List Tm) (i : Nat) (pre xs : List Value) (G : World → Prop) : Prop where
 nd : (g :: st.map Pr.g).Nodup
 pend : ∀ r ∈ st, Pend S w r
 fp : FpOk S w Fp st
 fpg : ¬ Fp g
 wi : Wi S w Fp st g pre (l.drop i) G
 ok : ∀ r ∈ st, ∀ p ∈ partsL r.l, p.ok1
 okl : ∀ p ∈ partsL (l.drop i), p.ok1
 pl : pre.length = i * 7
 rc : RC (fun k => k < S) w (l.drop i) xs
 own : w.ownsRow S 27 7 (.slice (some ⟨g, 0, none⟩) l.length c) l.length (pre ++ xs)
 gS : S ≤ g
theorem CI.kept {S : Nat} {w w' : World} {Fp : Nat → Prop} {st : List Pr} {G : World → Prop} (h : CI S w Fp st G) {M : Nat → Prop} (hk : Kept M w w') (hM : ∀ k, M k → S ≤ k) (hr : ∀ r ∈ st, ¬ M r.g) (hf : ∀ k, Fp k → ¬ M k) (hS : S ≤ w.heap.size) : CI S w' Fp st G := by
 have hFp : ∀ k, Fp k → w'.heap[k]? = w.heap[k]? := fun k hk' => by
   obtain ⟨_, ⟨c, t, hc, _⟩, _⟩ := h.fp k hk'
   exact hk.block k (zge.1 hc).1 (hf k hk')
 refine ⟨h.nd, fun r hr' => (h.pend r hr').kept hk hM (hr r hr') hS, fun k hk' => ?_, h.wo.move hFp, h.ok⟩
 obtain ⟨h1, ⟨c, t, hc, ht⟩, h3⟩ := h.fp k hk'
 exact ⟨h1, ⟨c, t, (hFp k hk').trans hc, ht⟩, h3⟩
theorem CJ.kept {S : Nat} {w w' : World} {Fp : Nat → Prop} {st : List Pr} {g c : Nat} {l : List Tm} {i : Nat} {pre xs : List Value} {G : World → Prop} (h : CJ S w Fp st g c l i pre xs G) {M : Nat → Prop} (hk : Kept M w w') (hM : ∀ k, M k → S ≤ k) (hr : ∀ r ∈ st, ¬ M r.g) (hf : ∀ k, Fp k → ¬ M k) (hg : ¬ M g) (hS : S ≤ w.heap.size) : CJ S w' Fp st g c l i pre xs G := by
 have hFp : ∀ k, Fp k → w'.heap[k]? = w.heap[k]? := fun k hk' => by
   obtain ⟨_, ⟨c, t, hc, _⟩, _⟩ := h.fp k hk'
   exact hk.block k (zge.1 hc).1 (hf k hk')
 refine ⟨h.nd, fun r hr' => (h.pend r hr').kept hk hM (hr r hr') hS, fun k hk' => ?_, h.fpg, h.wi.move hFp, h.ok, h.okl, h.pl, h.rc.zs (fun k hk' => hk.block k (by omega) (fun hm => by have := hM k hm; omega)), ?_, h.gS⟩
 · obtain ⟨h1, ⟨c, t, hc, ht⟩, h3⟩ := h.fp k hk'
   exact ⟨h1, ⟨c, t, (hFp k hk').trans hc, ht⟩, h3⟩
 · have ho := h.own
   refine ⟨ho.1, ?_⟩
   rcases ho.2 with hn | ⟨g', cap', cur', hv, hB, hg', rest⟩
   · exact .inl hn
   · have : g' = g := by simp at hv; exact hv.1.symm
     subst this
     exact .inr ⟨g', cap', cur', hv, hB, (hk.block g' (zge.1 hg').1 hg).trans hg', rest⟩
theorem own_same {w w' : World} {B s : Nat} {e : TypeId} {g n c : Nat} {xs : List Value} (h : w.ownsRow B e s (.slice (some ⟨g, 0, none⟩) n c) n xs) (hb : w'.heap[g]? = w.heap[g]?) : w'.ownsRow B e s (.slice (some ⟨g, 0, none⟩) n c) n xs := by
 obtain ⟨h1, ⟨h2, _⟩ | ⟨g', cap', cur, h2, hB, hg, rest⟩⟩ := h
 · simp at h2
 · have : g' = g := by simp at h2; exact h2.1.symm
   subst this
   exact ⟨h1, .inr ⟨g', cap', cur, h2, hB, hb.trans hg, rest⟩⟩
theorem isAt_blk {w : World} {B s : Nat} {e : TypeId} {o : Option Addr} {n c k : Nat} {xs : List Value} (h : w.ownsRow B e s (.slice o n c) n xs) (hk : isAt o k) : B ≤ k ∧ ∃ cur, w.heap[k]? = some (.cells cur e (0, 0)) := by
 have hk' : o = some ⟨k, 0, none⟩ := hk
 subst hk'
 obtain ⟨cur, hg, hB, _⟩ := own_blk h
 exact ⟨hB, cur, hg⟩
theorem cj_step {S B : Nat} {w wF : World} {Fp : Nat → Prop} {st : List Pr} {g c i : Nat} {l : List Tm} {t : Tm} {pre ys : List Value} {a0 a1 a2 a3 a4 a5 a6 : Value} {G : World → Prop} {k : Int} {neg : Bool} {nm : ByteArray} {n : Int} {oD oL oB : Option Addr} {lD cD lL cL lB cB : Nat} {M : Nat → Prop}
   (hJ : CJ S w Fp st g c l i pre (a0 :: a1 :: a2 :: a3 :: a4 :: a5 :: a6 :: ys) G) (hd : l.drop i = t :: l.drop (i + 1)) (hDt : Dt S B w (prT t) (tmV k neg (.slice oD lD cD) nm n (.slice oL lL cL) (.slice oB lB cB))) (hSB : S ≤ B) (hgB : g < B) (hrB : ∀ r ∈ st, r.g < B) (hfB : ∀ k, Fp k → k < B)
   (hk : Kept M w wF) (hM : ∀ k, M k → S ≤ k ∧ k < B) (hMr : ∀ r ∈ st, ¬ M r.g) (hMf : ∀ k, Fp k → ¬ M k) (hS : S ≤ w.heap.size)
   (hown : wF.ownsRow S 27 7 (.slice (some ⟨g, 0, none⟩) l.length c) l.length ((pre ++ [.int .i64 k, .bool neg, .slice oD lD cD, .string nm, .int .i64 n, .slice oL lL cL, .slice oB lB cB]) ++ ys)) :
   lL = t.kids.length ∧ (t.kids = [] → CJ S wF (fun k => Fp k ∨ isAt oD k ∨ isAt oB k) st g c l (i + 1) (pre ++ [.int .i64 k, .bool neg, .slice oD lD cD, .string nm, .int .i64 n, .slice oL lL cL, .slice oB lB cB]) ys G) ∧
   (t.kids ≠ [] → ∃ gL, oL = some ⟨gL, 0, none⟩ ∧ CJ S wF (fun k => Fp k ∨ isAt oD k ∨ isAt oB k) (⟨gL, cL, t.kids⟩ :: st) g c l (i + 1) (pre ++ [.int .i64 k, .bool neg, .slice oD lD cD, .string nm, .int .i64 n, .slice oL lL cL, .slice oB lB cB]) ys G) := by
 have hF : ∀ k, Fp k → wF.heap[k]? = w.heap[k]? := fun k hk' => by
   obtain ⟨_, ⟨c, t, hc, _⟩, _⟩ := hJ.fp k hk'
   exact hk.block k (zge.1 hc).1 (hMf k hk')
 have hN : ∀ k, B ≤ k → k < w.heap.size → wF.heap[k]? = w.heap[k]? := fun k h1 h2 => hk.block k h2 (fun hm => by have := (hM k hm).2; omega)
 have hwi := hJ.wi
 rw [hd] at hwi
 obtain ⟨s1, s2, s3⟩ := wi_step (w3 := wF) hwi hSB hDt hF hN
 have hDD : (∀ k, isAt oD k → B ≤ k ∧ ∃ cur, w.heap[k]? = some (.cells cur 133 (0, 0))) ∧ (∀ k, isAt oB k → B ≤ k ∧ ∃ cur, w.heap[k]? = some (.cells cur 5 (0, 0))) := by
   cases hP : prT t with | mk pk pneg pd pnm pn pl pb =>
   rw [hP] at hDt
   unfold Dt at hDt
   obtain ⟨D, L, Bv, xs, e, hD, hL, hRC, hBv, hLm⟩ := hDt
   simp only [Value.agg.injEq, Array.mk.injEq, List.cons.injEq, Value.int.injEq, Value.bool.injEq, Value.string.injEq, and_true, true_and] at e
   obtain ⟨rfl, rfl, rfl, rfl, rfl, rfl, rfl⟩ := e
   obtain ⟨_, _, e1, _⟩ := own_sl hD
   obtain ⟨_, _, e3, _⟩ := own_sl hBv
   simp only [Value.slice.injEq] at e1 e3
   obtain ⟨rfl, rfl, rfl⟩ := e1
   obtain ⟨rfl, rfl, rfl⟩ := e3
   exact ⟨fun k hk => isAt_blk hD hk, fun k hk => isAt_blk hBv hk⟩
 have hrc := hJ.rc
 rw [hd] at hrc
 obtain ⟨_, _, _, _, _, _, _, _, _, _, _, _, _, zs, _, ez, hRCz⟩ := hrc
 simp only [List.cons.injEq] at ez
 obtain ⟨_, _, _, _, _, _, _, rfl⟩ := ez
 have hRF : RC (fun k => k < S) wF (l.drop (i + 1)) ys := hRCz.zs (fun k hk' => hk.block k (by omega) (fun hm => by have := (hM k hm).1; omega))
 have hpend : ∀ r ∈ st, Pend S wF r := fun r hr => (hJ.pend r hr).kept hk (fun k hm => (hM k hm).1) (hMr r hr) hS
 have hpl : (pre ++ [.int .i64 k, .bool neg, .slice oD lD cD, .string nm, .int .i64 n, .slice oL lL cL, .slice oB lB cB] : List Value).length = (i + 1) * 7 := by
   rw [List.length_append, hJ.pl]; simp only [List.length_cons, List.length_nil]; omega
 have hokl := hJ.okl
 rw [hd] at hokl
 have hok2 : ∀ p ∈ partsL (l.drop (i + 1)), p.ok1 := fun p hp => hokl p (by simp [partsL, hp])
 have hfp : ∀ k, (Fp k ∨ isAt oD k ∨ isAt oB k) → S ≤ k ∧ (∃ c t, wF.heap[k]? = some (.cells c t (0, 0)) ∧ t ≠ 24 ∧ (¬ Fp k → t ≠ 27)) ∧ ∀ r ∈ st, r.g ≠ k := by
   intro k hk'
   rcases hk' with h | h | h
   · obtain ⟨h1, ⟨c, t, hc, ht⟩, h3⟩ := hJ.fp k h
     exact ⟨h1, ⟨c, t, (hF k h).trans hc, ht, fun hn => absurd h hn⟩, h3⟩
   · obtain ⟨h1, cur, hc⟩ := hDD.1 k h
     exact ⟨by omega, ⟨cur, 133, (hN k h1 (zge.1 hc).1).trans hc, by decide, fun _ => by decide⟩, fun r hr => by have := hrB r hr; omega⟩
   · obtain ⟨h1, cur, hc⟩ := hDD.2 k h
     exact ⟨by omega, ⟨cur, 5, (hN k h1 (zge.1 hc).1).trans hc, by decide, fun _ => by decide⟩, fun r hr => by have := hrB r hr; omega⟩
 have hfg : ¬ (Fp g ∨ isAt oD g ∨ isAt oB g) := by
   rintro (h | h | h)
   · exact hJ.fpg h
   · have := (hDD.1 g h).1; omega
   · have := (hDD.2 g h).1; omega
 refine ⟨s1, fun h0 => ?_, fun h0 => ?_⟩
 · refine ⟨hJ.nd, hpend, fun k hk' => ?_, hfg, s2 h0, hJ.ok, hok2, hpl, hRF, hown, hJ.gS⟩
   obtain ⟨h1, ⟨c, t, hc, ht, _⟩, h3⟩ := hfp k hk'
   exact ⟨h1, ⟨c, t, hc, ht⟩, h3⟩
 · obtain ⟨gL, hoL, hBL, ⟨xs, hRx, hOx⟩, hW⟩ := s3 h0
   subst hoL
   rw [s1] at hOx
   obtain ⟨cur, hgL, _, _, _⟩ := own_blk hOx
   refine ⟨gL, rfl, ?_, fun r hr => ?_, fun k hk' => ?_, hfg, hW, fun r hr => ?_, hok2, hpl, hRF, hown, hJ.gS⟩
   · have hnd := hJ.nd
     simp only [List.nodup_cons, List.map_cons, List.mem_cons, not_or] at hnd ⊢
     refine ⟨⟨by omega, hnd.1⟩, ?_, hnd.2⟩
     intro hm
     obtain ⟨r, hr, e⟩ := List.mem_map.1 hm
     have := hrB r hr
     omega
   · rcases List.mem_cons.1 hr with rfl | hr
     · refine Pend.kept (w := w) ⟨by show S ≤ gL; omega, xs, hRx, ?_⟩ hk (fun k hm => (hM k hm).1) (fun hm => by have := (hM _ hm).2; simp only at this; omega) hS
       exact own_mono hOx hSB
     · exact hpend r hr
   · obtain ⟨h1, ⟨c, t', hc, ht, ht2⟩, h3⟩ := hfp k hk'
     refine ⟨h1, ⟨c, t', hc, ht⟩, fun r hr => ?_⟩
     rcases List.mem_cons.1 hr with rfl | hr
     · intro e
       simp only at e
       subst e
       have hn : ¬ Fp gL := fun hf => by have := hfB gL hf; omega
       have hc2 := (hN gL hBL (zge.1 hgL).1).trans hgL
       rw [hc] at hc2
       simp only [Option.some.injEq, Obj.cells.injEq] at hc2
       exact ht2 hn hc2.2.1
     · exact h3 r hr
   · rcases List.mem_cons.1 hr with rfl | hr
     · intro p hp
       exact hokl p (by simp only [partsL, parts_eq]; simp only at hp; simp [hp])
     · exact hJ.ok r hr
theorem Dt.form {S B : Nat} {w : World} {T : Tm} {v : Value} (h : Dt S B w T v) : ∃ k neg od ld cd nm n ol ll cl ob lb cb, v = tmV k neg (.slice od ld cd) nm n (.slice ol ll cl) (.slice ob lb cb) := by
 cases T with | mk k neg d nm n l b =>
 unfold Dt at h
 obtain ⟨D, L, Bv, xs, rfl, hD, hL, _, hB, _⟩ := h
 obtain ⟨_, _, rfl, _⟩ := own_sl hD
 obtain ⟨_, _, rfl, _⟩ := own_sl hL
 obtain ⟨_, _, rfl, _⟩ := own_sl hB
 exact ⟨_, _, _, _, _, _, _, _, _, _, _, _, _, rfl⟩
theorem only_put7 (w : World) (g i : Nat) (b0 b1 b2 b3 b4 b5 b6 : Value) : Only g w (((((((w.setCell ⟨g, i, none⟩ b0).setCell ⟨g, i + 1, none⟩ b1).setCell ⟨g, i + 2, none⟩ b2).setCell ⟨g, i + 3, none⟩ b3).setCell ⟨g, i + 4, none⟩ b4).setCell ⟨g, i + 5, none⟩ b5).setCell ⟨g, i + 6, none⟩ b6) :=
 ((((((only_set w g i b0).setCell _ b1).setCell _ b2).setCell _ b3).setCell _ b4).setCell _ b5).setCell _ b6
theorem wait_ne {w : World} {S : Nat} {v : Value} {m : Nat} {xs : List Value} (h : w.ownsRow S 24 1 v m xs) {k : Nat} {c : Array Value} {t : TypeId} (hk : w.heap[k]? = some (.cells c t (0, 0))) (ht : t ≠ 24) : ¬ v.ownBlock = some k := by
 intro e
 obtain ⟨h1, ⟨h2, h3⟩ | ⟨g', cap', cur, h2, hB, hg, rest⟩⟩ := h
 · subst h2; simp [Value.ownBlock] at e
 · subst h2
   simp [Value.ownBlock] at e
   subst e
   rw [hg] at hk
   simp only [Option.some.injEq, Obj.cells.injEq] at hk
   exact ht hk.2.1.symm
end Go.Proofs.YtlojfmlaookpmaaGreatDoor
