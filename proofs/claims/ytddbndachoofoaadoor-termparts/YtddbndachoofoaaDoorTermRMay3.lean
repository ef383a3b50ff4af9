/- may of the reference: kinds without parts. -/
import Derived.Test.YtddbndachoofoaaDoorTermRMay2
namespace Go.Proofs.YtddbndachoofoaaDoor
open Go.ChangeShapes Go.WideShapes Go.ChangeAt Go.RowKit Go.Shelf
set_option linter.unusedSimpArgs false
set_option linter.unusedVariables false
set_option maxHeartbeats 2000000 in
set_option maxRecDepth 8000 in
theorem pass5 (od : Option Addr) (cd : Nat) (ol : Option Addr) (cl : Nat) (ob : Option Addr) (cb : Nat) (w : World) (nm : ByteArray) (hn : nm.toList = []) : MayC 5 false od 0 cd nm 0 ol 0 cl ob 0 cb w true := by
  go_enter Tryd.func52, Tryd.ntmps52
  simp only [List.append_eq, List.cons_append, List.nil_append]
  go_wp2
  go_ret
  exact ⟨rfl, (Below.refl _ w).alloc (Nat.le_refl _) _⟩
set_option maxHeartbeats 2000000 in
set_option maxRecDepth 8000 in
theorem passx (od : Option Addr) (cd : Nat) (ol : Option Addr) (cl : Nat) (ob : Option Addr) (cb : Nat) (w : World) (k : Int) (nm : ByteArray) (hn : nm.toList = []) (h0 : (k != 0) = true) (h1 : (k != 1) = true) (h2 : (k != 2) = true) (h3 : (k != 3) = true) (h4 : (k != 4) = true) (h6 : (k != 6) = true) (h7 : (k != 7) = true) (e0 : (k == 0) = false) (e1 : (k == 1) = false) (e2 : (k == 2) = false) (e3 : (k == 3) = false) (e4 : (k == 4) = false) (e5 : (k == 5) = false) (e6 : (k == 6) = false) (e7 : (k == 7) = false) : MayC k false od 0 cd nm 0 ol 0 cl ob 0 cb w false := by
  go_enter Tryd.func52, Tryd.ntmps52
  simp only [List.append_eq, List.cons_append, List.nil_append]
  go_wp2
  go_ret
  exact ⟨rfl, (Below.refl _ w).alloc (Nat.le_refl _) _⟩
set_option maxHeartbeats 2000000 in
set_option maxRecDepth 8000 in
theorem pass7 (od : Option Addr) (cd : Nat) (ol : Option Addr) (cl : Nat) (ob : Option Addr) (cb : Nat) (w : World) (nm : ByteArray) (lb : Nat) (hn : nm.toList = []) : MayC 7 false od 0 cd nm 0 ol 0 cl ob lb cb w (decide ((lb : Int) ≤ 4096)) := by
  obtain ⟨R, hR⟩ : ∃ R, decide ((lb : Int) ≤ 4096) = R := ⟨_, rfl⟩
  unfold MayC
  rw [hR]
  have hHR := hid hR
  clear hR
  go_enter Tryd.func52, Tryd.ntmps52
  simp only [List.append_eq, List.cons_append, List.nil_append]
  go_wp2
  all_goals (
    go_ret
    refine ⟨?_, (Below.refl _ w).alloc (Nat.le_refl _) _⟩
    rw [← hHR.out]
    first | rfl | (simp [*]; done))
set_option maxHeartbeats 2000000 in
set_option maxRecDepth 8000 in
theorem pass2 (od : Option Addr) (cd : Nat) (ol : Option Addr) (cl : Nat) (ob : Option Addr) (cb : Nat) (w : World) (nm : ByteArray) (n : Int) (hn : nm.toList = []) : MayC 2 false od 0 cd nm n ol 0 cl ob 0 cb w (decide (0 ≤ n) && decide (n ≤ 1073741824)) := by
  obtain ⟨R, hR⟩ : ∃ R, (decide (0 ≤ n) && decide (n ≤ 1073741824)) = R := ⟨_, rfl⟩
  unfold MayC
  rw [hR]
  have hHR := hid hR
  clear hR
  go_enter Tryd.func52, Tryd.ntmps52
  simp only [List.append_eq, List.cons_append, List.nil_append]
  go_wp2
  all_goals (
    go_ret
    refine ⟨?_, (Below.refl _ w).alloc (Nat.le_refl _) _⟩
    rw [← hHR.out]
    first | rfl | (simp [*]; done) | (simp [*]; omega) | (simp; omega))
set_option maxHeartbeats 2000000 in
set_option maxRecDepth 8000 in
theorem pass3 (od : Option Addr) (cd : Nat) (ol : Option Addr) (cl : Nat) (ob : Option Addr) (cb : Nat) (w : World) (nm : ByteArray) (n : Int) (hn : nm.toList = []) : MayC 3 false od 0 cd nm n ol 0 cl ob 0 cb w (decide (0 ≤ n) && decide (n ≤ 1073741824)) := by
  obtain ⟨R, hR⟩ : ∃ R, (decide (0 ≤ n) && decide (n ≤ 1073741824)) = R := ⟨_, rfl⟩
  unfold MayC
  rw [hR]
  have hHR := hid hR
  clear hR
  go_enter Tryd.func52, Tryd.ntmps52
  simp only [List.append_eq, List.cons_append, List.nil_append]
  go_wp2
  all_goals (
    go_ret
    refine ⟨?_, (Below.refl _ w).alloc (Nat.le_refl _) _⟩
    rw [← hHR.out]
    first | rfl | (simp [*]; done) | (simp [*]; omega) | (simp; omega))
set_option maxHeartbeats 2000000 in
set_option maxRecDepth 8000 in
theorem pass1 (od : Option Addr) (cd : Nat) (ol : Option Addr) (cl : Nat) (ob : Option Addr) (cb : Nat) (w : World) (nm : ByteArray) (hs : nm.size ≤ 1000000) (hTa : Tabs w) : MayC 1 false od 0 cd nm 0 ol 0 cl ob 0 cb w (decide (0 ≤ countZ nm.data.toList) && decide (countZ nm.data.toList ≤ 255)) := by
  obtain ⟨R, hR⟩ : ∃ R, (decide (0 ≤ countZ nm.data.toList) && decide (countZ nm.data.toList ≤ 255)) = R := ⟨_, rfl⟩
  unfold MayC
  rw [hR]
  have hHR := hid hR
  clear hR
  obtain ⟨kX, hBX, hz0⟩ := bx1 w (.int .i64 1) (.bool false) (.slice od 0 cd) (.string nm) (.int .i64 0) (.slice ol 0 cl) (.slice ob 0 cb) 29
  have hTa1 := hTa.below hBX
  go_enter Tryd.func52, Tryd.ntmps52
  simp only [List.append_eq, List.cons_append, List.nil_append]
  go_wp2_with fail
  generalize (w.alloc (.cells #[.int .i64 1, .bool false, .slice od 0 cd, .string nm, .int .i64 0, .slice ol 0 cl, .slice ob 0 cb] 29)) = W0 at *
  refine (rvalid_w nm _ (by omega) hTa1).mono ?_
  rintro e w1 ⟨rfl, b1⟩
  have hB1 := below_and hBX (by omega) b1
  obtain ⟨x0, x1, x2, x3, x4, x5, x6⟩ := (kX.below b1).res
  by_cases hv : Lib.validD nm.data.toList = true
  · rw [hv]
    go_wp2_with fail
    refine (rcount_w nm _ (by omega) (hTa1.below b1)).mono ?_
    rintro e w2 ⟨rfl, b2⟩
    have hB2 := below_and hB1 (by omega) b2
    have hc : countZ nm.data.toList = ((sg nm.data.toList).length : Int) := by unfold countZ; rw [if_pos hv]
    obtain ⟨c, hcc⟩ : ∃ c, countZ nm.data.toList = c := ⟨_, rfl⟩
    have h0 : 0 ≤ c := by rw [← hcc, hc]; omega
    rw [hcc]
    have hHc := hid hcc
    clear hc hcc
    go_wp2
    all_goals (
      go_ret
      refine ⟨?_, hB2⟩
      have hq := hHR.out
      rw [hHc.out, decide_eq_true h0, Bool.true_and] at hq
      rw [← hq]
      clear hq
      first | rfl | (simp [*]; done))
  · have hv' : Lib.validD nm.data.toList = false := by simpa using hv
    rw [hv']
    have hc : countZ nm.data.toList = -1 := by unfold countZ; rw [if_neg hv]
    have hRf : R = false := by rw [← hHR.out, hc]; rfl
    subst hRf
    clear hHR hv hv' hc
    go_wp2
    go_ret
    exact ⟨rfl, hB1⟩
end Go.Proofs.YtddbndachoofoaaDoor
