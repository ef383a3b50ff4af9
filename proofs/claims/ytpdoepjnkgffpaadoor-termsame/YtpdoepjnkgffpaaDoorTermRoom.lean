/- number, room, Words of package term. -/
import Derived.Test.YtpdoepjnkgffpaaDoorTermTree
import Derived.Test.YtpdoepjnkgffpaaDoorTermBigB
namespace Go.Proofs.YtpdoepjnkgffpaaDoor
open Go.ChangeShapes Go.WideShapes Go.ChangeAt Go.RowKit Go.Shelf
set_option linter.unusedSimpArgs false
set_option linter.unusedVariables false
set_option maxRecDepth 2000
theorem fldN1 (b : Bool) (o : Option Addr) (n c : Nat) (w : World) : (Instr.field 72 (.agg #[.bool b, .slice o n c]) 1).run Tryd.prog w = .ok (.slice o n c) w := by kernel_rfl
set_option maxHeartbeats 1000000 in
theorem number_w (k : Int) (neg : Bool) (od : Option Addr) (ld cd : Nat) (nm : ByteArray) (n : Int) (ol : Option Addr) (ll cl : Nat) (ob : Option Addr) (lb cb : Nat) (w : World) :
    Calls Tryd.prog 70 #[tmV k neg (.slice od ld cd) nm n (.slice ol ll cl) (.slice ob lb cb)] w fun e w' => e = .returned (.agg #[.bool neg, .slice od ld cd]) ∧ Below w.heap.size w w' := by
  go_enter Tryd.func70, Tryd.ntmps70
  go_wp2
  exact bodyPost_ret (v := .agg #[.bool neg, .slice od ld cd]) (by simp [results, Tryd.results70, go_sem]) rfl ⟨rfl, ((Below.refl _ w).alloc (Nat.le_refl _) _).alloc (by simp) _⟩
def Tm.num : Tm → Int | .mk _ neg d _ _ _ _ => sv neg (gval 4294967296 d)
/-- not too great, but for its parts -/
def Tm.ok1 : Tm → Prop | .mk _ _ d nm _ l b => d.length ≤ 1000000 ∧ nm.size ≤ 1000000 ∧ l.length ≤ 1000000 ∧ b.length ≤ 1000000 ∧ Lm 4294967296 d
def roomN : Tm → Nat
  | .mk k neg d _ _ l _ => if k = 0 then (if smlB (sv neg (gval 4294967296 d)) then 0 else 1 + (glim 4294967296 (sv neg (gval 4294967296 d)).natAbs).length) else if k = 6 then 3 else if k = 4 then 1 + l.length else if k = 7 then 4 else 0
set_option maxHeartbeats 2000000 in
theorem room_w (T : Tm) (v : Value) (w : World) (hok : T.ok1) (hT : TV (Low w) w T v) :
    Calls Tryd.prog 61 #[v] w fun e w' => e = .returned (.int .i64 ((roomN T : Nat) : Int)) ∧ Below w.heap.size w w' := by
  cases T with | mk tk tneg td tnm tn tl tb =>
  obtain ⟨hd, hnm, hl, hb, _⟩ : td.length ≤ 1000000 ∧ tnm.size ≤ 1000000 ∧ tl.length ≤ 1000000 ∧ tb.length ≤ 1000000 ∧ Lm 4294967296 td := hok
  unfold TV at hT
  obtain ⟨tod, tcd, tol, tcl, tob, tcb, rfl, h1, h2, h3, _, _, htl, htR⟩ := hT
  clear htR
  obtain ⟨Z, hZ⟩ : ∃ Z, sv tneg (gval 4294967296 td) = Z := ⟨_, rfl⟩
  have hN : ∀ w', Below w.heap.size w w' → IsN (.agg #[.bool tneg, .slice tod td.length tcd]) Z 1000000 w' := fun w' hb => ⟨tneg, tod, td, tcd, rfl, (h1.zs (fun k hk => hb.block k hk)).lies, h2, h3, hZ, hd⟩
  clear h1 h2 h3
  have hB : Below w.heap.size w (w.alloc (.cells #[.int .i64 tk, .bool tneg, .slice tod td.length tcd, .string tnm, .int .i64 tn, .slice tol tl.length tcl, .slice tob tb.length tcb] 31)) := (Below.refl _ w).alloc (Nat.le_refl _) _
  have kA := Bx.new w (.int .i64 tk) (.bool tneg) (.slice tod td.length tcd) (.string tnm) (.int .i64 tn) (.slice tol tl.length tcl) (.slice tob tb.length tcb) 31
  by_cases h0 : tk = 0
  · subst h0
    have hR : roomN (.mk 0 tneg td tnm tn tl tb) = if smlB Z then 0 else 1 + (glim 4294967296 Z.natAbs).length := by simp [roomN, hZ]
    obtain ⟨R, hRR⟩ : ∃ R, roomN (.mk 0 tneg td tnm tn tl tb) = R := ⟨_, rfl⟩
    rw [hRR]
    rw [hRR] at hR
    have hHR := hid hR
    have hfl := fldN1
    clear hZ hR hRR
    go_enter Tryd.func61, Tryd.ntmps61
    go_wp2_with fail
    generalize (w.alloc (.cells #[.int .i64 0, .bool tneg, .slice tod td.length tcd, .string tnm, .int .i64 tn, .slice tol tl.length tcl, .slice tob tb.length tcb] 31)) = w1 at *
    refine (number_w 0 tneg tod td.length tcd tnm tn tol tl.length tcl tob tb.length tcb _).mono ?_
    rintro e w2 ⟨rfl, b2⟩
    have hB2 := below_and hB (Nat.le_refl _) b2
    go_wp2_with fail
    refine (small_w _ Z 1000000 _ (Nat.le_refl _) (hN _ hB2)).mono ?_
    rintro e w3 ⟨rfl, b3⟩
    have hB3 := below_and hB2 (Nat.le_refl _) b3
    have kA3 := (kA.below b2).below b3
    obtain ⟨x0, x1, x2, x3, x4, x5, x6, _⟩ := kA3
    obtain ⟨bb, hbb⟩ : ∃ bb, smlB Z = bb := ⟨_, rfl⟩
    rw [hbb]
    cases bb with
    | true =>
      have hR1 : R = 0 := by rw [hHR.out, hbb]; rfl
      subst hR1
      clear hbb hHR
      go_wp2
      go_ret
      exact ⟨rfl, hB3⟩
    | false =>
      have hR1 : R = 1 + (glim 4294967296 Z.natAbs).length := by rw [hHR.out, hbb]; rfl
      subst hR1
      clear hbb hHR
      go_wp2_with fail
      refine (number_w 0 tneg tod td.length tcd tnm tn tol tl.length tcl tob tb.length tcb _).mono ?_
      rintro e w4 ⟨rfl, b4⟩
      have hB4 := below_and hB3 (Nat.le_refl _) b4
      go_wp2_with fail
      refine (norm_w _ Z 1000000 _ (Nat.le_refl _) (hN _ hB4)).mono ?_
      rintro e w5 ⟨sl, rfl, hF, hK, b5⟩
      have hB5 := below_and hB4 (Nat.le_refl _) b5
      obtain ⟨o5, c5, rfl, _, _, _⟩ := hF.parts
      clear hF
      go_wp2
      go_ret
      exact ⟨by simp, hB5⟩
  by_cases h6 : tk = 6
  · subst h6
    go_enter Tryd.func61, Tryd.ntmps61
    go_wp2
    go_ret
    exact ⟨by simp [roomN, *], hB⟩
  by_cases h4 : tk = 4
  · subst h4
    go_enter Tryd.func61, Tryd.ntmps61
    go_wp2
    go_ret
    exact ⟨by simp [roomN, *], hB⟩
  by_cases h7 : tk = 7
  · subst h7
    go_enter Tryd.func61, Tryd.ntmps61
    go_wp2
    go_ret
    exact ⟨by simp [roomN, *], hB⟩
  have e0 : (tk == 0) = false := by simp [h0]
  have e4 : (tk == 4) = false := by simp [h4]
  have e6 : (tk == 6) = false := by simp [h6]
  have e7 : (tk == 7) = false := by simp [h7]
  go_enter Tryd.func61, Tryd.ntmps61
  go_wp2
  go_ret
  exact ⟨by simp [roomN, *], hB⟩
end Go.Proofs.YtpdoepjnkgffpaaDoor
