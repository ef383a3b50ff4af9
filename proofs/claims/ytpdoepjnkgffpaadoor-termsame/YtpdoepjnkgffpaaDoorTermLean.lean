/- lean, normed of package term. -/
import Derived.Test.YtpdoepjnkgffpaaDoorTermWords
import Derived.Test.YtpdoepjnkgffpaaDoorTermCount
namespace Go.Proofs.YtpdoepjnkgffpaaDoor
open Go.ChangeShapes Go.WideShapes Go.ChangeAt Go.RowKit Go.Shelf
set_option linter.unusedSimpArgs false
set_option linter.unusedVariables false
set_option maxRecDepth 2000
def prT : Tm → Tm
  | .mk k neg d nm n l b =>
    if k = 0 then .mk 0 neg d noS 0 [] []
    else if k = 1 then .mk 1 false [] nm 0 [] []
    else if k = 2 then .mk 2 false [] noS n [] []
    else if k = 3 then .mk 3 false [] noS n [] []
    else if k = 4 then .mk 4 false [] noS 0 l []
    else if k = 6 then .mk 6 false [] noS 0 l []
    else if k = 7 then .mk 7 false [] noS 0 [] b
    else .mk 5 false [] noS 0 [] []
theorem prV_tv {Z : Nat → Prop} {w : World} {k : Int} {neg : Bool} {d : List Nat} {nm : ByteArray} {n : Int} {l : List Tm} {b : List Nat} {od ol ob : Option Addr} {cd cl cb : Nat}
    (h : TV Z w (.mk k neg d nm n l b) (tmV k neg (.slice od d.length cd) nm n (.slice ol l.length cl) (.slice ob b.length cb))) :
    TV Z w (prT (.mk k neg d nm n l b)) (prV k neg (.slice od d.length cd) nm n (.slice ol l.length cl) (.slice ob b.length cb)) := by
  unfold TV at h
  obtain ⟨_, _, _, _, _, _, e, h1, h2, h3, h4, h5, h6, h7⟩ := h
  simp only [Value.agg.injEq, Array.mk.injEq, List.cons.injEq, Value.slice.injEq, and_true, true_and] at e
  obtain ⟨⟨rfl, rfl⟩, ⟨rfl, rfl⟩, rfl, rfl⟩ := e
  have z1 : Ls Z none (lim []) w := Ls.nil _ _ _
  have z2 : LsB Z none [] w := LsB.nil _ _ _
  have z3 : Lm 4294967296 [] := Lm.nil _
  have z4 : TR Z w [] none := by unfold TR; trivial
  unfold prT prV
  by_cases h0 : k = 0
  · subst h0; exact ⟨_, _, none, 0, none, 0, rfl, h1, h2, h3, z2, Nat.le_refl _, Nat.le_refl _, z4⟩
  by_cases h1' : k = 1
  · subst h1'; exact ⟨none, 0, none, 0, none, 0, rfl, z1, Nat.le_refl _, z3, z2, Nat.le_refl _, Nat.le_refl _, z4⟩
  by_cases h2' : k = 2
  · subst h2'; exact ⟨none, 0, none, 0, none, 0, rfl, z1, Nat.le_refl _, z3, z2, Nat.le_refl _, Nat.le_refl _, z4⟩
  by_cases h3' : k = 3
  · subst h3'; exact ⟨none, 0, none, 0, none, 0, rfl, z1, Nat.le_refl _, z3, z2, Nat.le_refl _, Nat.le_refl _, z4⟩
  by_cases h4' : k = 4
  · subst h4'; exact ⟨none, 0, _, _, none, 0, rfl, z1, Nat.le_refl _, z3, z2, Nat.le_refl _, h6, h7⟩
  by_cases h6' : k = 6
  · subst h6'; exact ⟨none, 0, _, _, none, 0, rfl, z1, Nat.le_refl _, z3, z2, Nat.le_refl _, h6, h7⟩
  by_cases h7' : k = 7
  · subst h7'; exact ⟨none, 0, none, 0, _, _, rfl, z1, Nat.le_refl _, z3, h4, h5, Nat.le_refl _, z4⟩
  simp only [h0, h1', h2', h3', h4', h6', h7', if_false]
  exact ⟨none, 0, none, 0, none, 0, rfl, z1, Nat.le_refl _, z3, z2, Nat.le_refl _, Nat.le_refl _, z4⟩
def eqF : Tm → Tm → Bool
  | .mk k neg d nm n l b, .mk k' neg' d' nm' n' l' b' => decide (k = k') && (neg == neg') && decide (nm.toList = nm'.toList) && decide (n = n') && decide ((d.length : Int) = (d'.length : Int)) && decide ((l.length : Int) = (l'.length : Int)) && ((b.length : Int) == (b'.length : Int))
def leanB (T : Tm) : Bool := eqF T (prT T)
set_option maxHeartbeats 2000000 in
set_option maxRecDepth 4000 in
theorem lean_w (T : Tm) (v : Value) (w : World) (hT : TV (Low w) w T v) :
    Calls Tryd.prog 83 #[v] w fun e w' => e = .returned (.bool (leanB T)) ∧ Below w.heap.size w w' := by
  cases T with | mk tk tneg td tnm tn tl tb =>
  have hT0 := hT
  unfold TV at hT
  obtain ⟨tod, tcd, tol, tcl, tob, tcb, rfl, _⟩ := hT
  have hp := prV_tv hT0
  clear hT0
  obtain ⟨R, hR⟩ : ∃ R, leanB (.mk tk tneg td tnm tn tl tb) = R := ⟨_, rfl⟩
  rw [hR]
  unfold leanB at hR
  obtain ⟨P, hP⟩ : ∃ P, prT (.mk tk tneg td tnm tn tl tb) = P := ⟨_, rfl⟩
  rw [hP] at hp hR
  clear hP
  cases P with | mk pk pneg pd pnm pn pl pb =>
  unfold TV at hp
  obtain ⟨pod, pcd, pol, pcl, pob, pcb, hpv, _⟩ := hp
  unfold eqF at hR
  have hHR := hid hR
  clear hR
  have hB : Below w.heap.size w (w.alloc (.cells #[.int .i64 tk, .bool tneg, .slice tod td.length tcd, .string tnm, .int .i64 tn, .slice tol tl.length tcl, .slice tob tb.length tcb] 31)) := (Below.refl _ w).alloc (Nat.le_refl _) _
  have kA := Bx.new w (.int .i64 tk) (.bool tneg) (.slice tod td.length tcd) (.string tnm) (.int .i64 tn) (.slice tol tl.length tcl) (.slice tob tb.length tcb) 31
  go_enter Tryd.func83, Tryd.ntmps83
  go_wp2_with fail
  generalize (w.alloc (.cells #[.int .i64 tk, .bool tneg, .slice tod td.length tcd, .string tnm, .int .i64 tn, .slice tol tl.length tcl, .slice tob tb.length tcb] 31)) = w1 at *
  refine (pruned_w tk tneg tod td.length tcd tnm tn tol tl.length tcl tob tb.length tcb _).mono ?_
  rintro e w2 ⟨rfl, b2⟩
  have hB2 := below_and hB (Nat.le_refl _) b2
  have kA2 := kA.below b2
  unfold tmV at hpv
  rw [hpv]
  clear hpv kA hB b2
  have kB := Bx.new w2 (.int .i64 pk) (.bool pneg) (.slice pod pd.length pcd) (.string pnm) (.int .i64 pn) (.slice pol pl.length pcl) (.slice pob pb.length pcb) 31
  have kA3 := kA2.below ((Below.refl _ _).alloc (Nat.le_refl _) (.cells #[.int .i64 pk, .bool pneg, .slice pod pd.length pcd, .string pnm, .int .i64 pn, .slice pol pl.length pcl, .slice pob pb.length pcb] 31))
  have hB3 := hB2.alloc hB2.size (.cells #[.int .i64 pk, .bool pneg, .slice pod pd.length pcd, .string pnm, .int .i64 pn, .slice pol pl.length pcl, .slice pob pb.length pcb] 31)
  clear hB2 kA2
  go_upto_region 2 with fail
  generalize (w2.alloc (.cells #[.int .i64 pk, .bool pneg, .slice pod pd.length pcd, .string pnm, .int .i64 pn, .slice pol pl.length pcl, .slice pob pb.length pcb] 31)) = w3 at *
  obtain ⟨x0, x1, x2, x3, x4, x5, x6, _⟩ := kA3
  obtain ⟨y0, y1, y2, y3, y4, y5, y6, _⟩ := kB
  go_wp2
  all_goals (
    go_ret
    refine ⟨?_, hB3⟩
    have hq := hHR.out
    rw [← hq]
    simp [*])
end Go.Proofs.YtpdoepjnkgffpaaDoor
