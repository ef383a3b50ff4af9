/- Texts of mine, one behind the other: TermRMay, TermRMay2, TermRMay3, TermRMay4, TermRMay5, TermRMay6, TermRMay7. -/
import Derived.Test.YtpdoepjnkgffpaaDoorTermRTree
import Derived.Test.YtpdoepjnkgffpaaDoorTermSmallAll
namespace Go.Proofs.YtpdoepjnkgffpaaDoor
open Go.ChangeShapes Go.WideShapes Go.ChangeAt Go.RowKit Go.Shelf
set_option linter.unusedSimpArgs false
set_option linter.unusedVariables false
set_option maxRecDepth 2000
theorem sameNum_ne (na nb : Bool) (oa ob : Option Addr) (la lb ca cb : Nat) (w : World) (h : na ≠ nb ∨ la ≠ lb) :
    Calls Tryd.prog 64 #[.agg #[.bool na, .slice oa la ca], .agg #[.bool nb, .slice ob lb cb]] w fun e w' => e = .returned (.bool false) ∧ Below w.heap.size w w' := by
  obtain ⟨kA, kB, hB0, hz0⟩ := boxes2 w (.bool na) (.slice oa la ca) (.bool nb) (.slice ob lb cb) 50 50
  by_cases hb : na = nb
  · subst hb
    have hbb : (na != na) = false := by cases na <;> rfl
    have hl : la ≠ lb := h.resolve_left (fun e => e rfl)
    have hll : ((la : Int) != (lb : Int)) = true := by simp; omega
    clear h hl
    go_enter Tryd.func64, Tryd.ntmps64
    go_wp2
    all_goals (go_ret; exact ⟨rfl, hB0⟩)
  · have hbb : (na != nb) = true := by simpa using hb
    clear h
    go_enter Tryd.func64, Tryd.ntmps64
    go_wp2
    all_goals (go_ret; exact ⟨rfl, hB0⟩)
/-- a number held against its Norm -/
theorem sameNorm_w (neg : Bool) (d : List Nat) (od o : Option Addr) (cd c : Nat) (b : Bool) (n K : Nat) (w : World) (hK : K ≤ 1000000) (hm : Lm 4294967296 d) (hL : Lies od d w) (hd : d.length ≤ K) (hcd : d.length ≤ cd) (hC : IsC (.agg #[.bool b, .slice o n c]) (sv neg (gval 4294967296 d)) K w) :
    Calls Tryd.prog 64 #[.agg #[.bool neg, .slice od d.length cd], .agg #[.bool b, .slice o n c]] w fun e w' => e = .returned (.bool (normB neg d)) ∧ Below w.heap.size w w' := by
  have hnat : (sv neg (gval 4294967296 d)).natAbs = gval 4294967296 d := by unfold sv; cases neg <;> simp
  obtain ⟨hb, hn⟩ := hC.parts
  by_cases h : normB neg d = true
  · rw [h]
    unfold normB at h
    simp only [Bool.and_eq_true, beq_iff_eq] at h
    have hlen : (glim 4294967296 (sv neg (gval 4294967296 d)).natAbs).length = d.length := by omega
    have hgl : glim 4294967296 (sv neg (gval 4294967296 d)).natAbs = d := by
      obtain ⟨k, hk, hg⟩ := glim_is_take hm
      rw [hnat] at hlen ⊢
      rw [hg, List.length_take] at hlen
      rw [hg, List.take_of_length_le (by omega)]
    refine sameNum_w _ _ (sv neg (gval 4294967296 d)) K w hK ⟨od, cd, ?_, ?_, ?_, ?_⟩ hC
    · rw [hgl, h.1]
    · rw [hgl]; exact hL
    · rw [hgl]; exact hcd
    · rw [hgl]; exact hd
  · have hf : normB neg d = false := by simpa using h
    rw [hf]
    refine sameNum_ne _ _ _ _ _ _ _ _ w ?_
    unfold normB at h
    simp only [Bool.and_eq_true, beq_iff_eq, not_and] at h
    by_cases e : neg = b
    · right
      intro e2
      exact h (by rw [← hb, e]) (by rw [hn] at e2; omega)
    · left; exact e
end Go.Proofs.YtpdoepjnkgffpaaDoor
namespace Go.Proofs.YtpdoepjnkgffpaaDoor
open Go.ChangeShapes Go.WideShapes Go.ChangeAt Go.RowKit Go.Shelf
set_option linter.unusedSimpArgs false
set_option linter.unusedVariables false
set_option maxRecDepth 2000
abbrev MayC (k : Int) (neg : Bool) (od : Option Addr) (ld cd : Nat) (nm : ByteArray) (n : Int) (ol : Option Addr) (ll cl : Nat) (ob : Option Addr) (lb cb : Nat) (w : World) (r : Bool) : Prop :=
  Calls Tryd.prog 38 #[tmV k neg (.slice od ld cd) nm n (.slice ol ll cl) (.slice ob lb cb)] w fun e w' => e = .returned (.bool r) ∧ Below w.heap.size w w'
set_option maxHeartbeats 2000000 in
set_option maxRecDepth 8000 in
theorem bad1a (od : Option Addr) (cd : Nat) (ol : Option Addr) (cl : Nat) (ob : Option Addr) (cb : Nat) (w : World) (k : Int) (ld : Nat) (nm : ByteArray) (n : Int) (ll lb : Nat) (h0 : (k != 0) = true) : MayC k true od ld cd nm n ol ll cl ob lb cb w false := by
  go_enter Tryd.func38, Tryd.ntmps38
  simp only [List.append_eq, List.cons_append, List.nil_append]
  go_wp2
  go_ret
  exact ⟨rfl, (Below.refl _ w).alloc (Nat.le_refl _) _⟩
set_option maxHeartbeats 2000000 in
set_option maxRecDepth 8000 in
theorem bad1b (od : Option Addr) (cd : Nat) (ol : Option Addr) (cl : Nat) (ob : Option Addr) (cb : Nat) (w : World) (k : Int) (ld : Nat) (nm : ByteArray) (n : Int) (ll lb : Nat) (h0 : (k != 0) = true) (hd : (0 : Int) < (ld : Int)) : MayC k false od ld cd nm n ol ll cl ob lb cb w false := by
  go_enter Tryd.func38, Tryd.ntmps38
  simp only [List.append_eq, List.cons_append, List.nil_append]
  go_wp2
  go_ret
  exact ⟨rfl, (Below.refl _ w).alloc (Nat.le_refl _) _⟩
set_option maxHeartbeats 2000000 in
set_option maxRecDepth 8000 in
theorem bad2a (od : Option Addr) (cd : Nat) (ol : Option Addr) (cl : Nat) (ob : Option Addr) (cb : Nat) (w : World) (neg : Bool) (ld : Nat) (nm : ByteArray) (n : Int) (ll lb : Nat) (hq : nm.toList ≠ []) : MayC 0 neg od ld cd nm n ol ll cl ob lb cb w false := by
  go_enter Tryd.func38, Tryd.ntmps38
  simp only [List.append_eq, List.cons_append, List.nil_append]
  go_wp2
  go_ret
  exact ⟨rfl, (Below.refl _ w).alloc (Nat.le_refl _) _⟩
set_option maxHeartbeats 2000000 in
set_option maxRecDepth 8000 in
theorem bad2b (od : Option Addr) (cd : Nat) (ol : Option Addr) (cl : Nat) (ob : Option Addr) (cb : Nat) (w : World) (k : Int) (nm : ByteArray) (n : Int) (ll lb : Nat) (h0 : (k != 0) = true) (h1 : (k != 1) = true) (hq : nm.toList ≠ []) : MayC k false od 0 cd nm n ol ll cl ob lb cb w false := by
  go_enter Tryd.func38, Tryd.ntmps38
  simp only [List.append_eq, List.cons_append, List.nil_append]
  go_wp2
  go_ret
  exact ⟨rfl, (Below.refl _ w).alloc (Nat.le_refl _) _⟩
set_option maxHeartbeats 2000000 in
set_option maxRecDepth 8000 in
theorem bad3a (od : Option Addr) (cd : Nat) (ol : Option Addr) (cl : Nat) (ob : Option Addr) (cb : Nat) (w : World) (neg : Bool) (ld : Nat) (nm : ByteArray) (n : Int) (ll lb : Nat) (hn : nm.toList = []) (hz : (n != 0) = true) : MayC 0 neg od ld cd nm n ol ll cl ob lb cb w false := by
  go_enter Tryd.func38, Tryd.ntmps38
  simp only [List.append_eq, List.cons_append, List.nil_append]
  go_wp2
  go_ret
  exact ⟨rfl, (Below.refl _ w).alloc (Nat.le_refl _) _⟩
set_option maxHeartbeats 2000000 in
set_option maxRecDepth 8000 in
theorem bad3b (od : Option Addr) (cd : Nat) (ol : Option Addr) (cl : Nat) (ob : Option Addr) (cb : Nat) (w : World) (nm : ByteArray) (n : Int) (ll lb : Nat) (hz : (n != 0) = true) : MayC 1 false od 0 cd nm n ol ll cl ob lb cb w false := by
  go_enter Tryd.func38, Tryd.ntmps38
  simp only [List.append_eq, List.cons_append, List.nil_append]
  go_wp2
  go_ret
  exact ⟨rfl, (Below.refl _ w).alloc (Nat.le_refl _) _⟩
set_option maxHeartbeats 2000000 in
set_option maxRecDepth 8000 in
theorem bad3c (od : Option Addr) (cd : Nat) (ol : Option Addr) (cl : Nat) (ob : Option Addr) (cb : Nat) (w : World) (k : Int) (nm : ByteArray) (n : Int) (ll lb : Nat) (h0 : (k != 0) = true) (h1 : (k != 1) = true) (h2 : (k != 2) = true) (h3 : (k != 3) = true) (hn : nm.toList = []) (hz : (n != 0) = true) : MayC k false od 0 cd nm n ol ll cl ob lb cb w false := by
  go_enter Tryd.func38, Tryd.ntmps38
  simp only [List.append_eq, List.cons_append, List.nil_append]
  go_wp2
  go_ret
  exact ⟨rfl, (Below.refl _ w).alloc (Nat.le_refl _) _⟩
set_option maxHeartbeats 2000000 in
set_option maxRecDepth 8000 in
theorem bad4a (od : Option Addr) (cd : Nat) (ol : Option Addr) (cl : Nat) (ob : Option Addr) (cb : Nat) (w : World) (neg : Bool) (ld : Nat) (nm : ByteArray) (ll lb : Nat) (hn : nm.toList = []) (hl : (0 : Int) < (ll : Int)) : MayC 0 neg od ld cd nm 0 ol ll cl ob lb cb w false := by
  go_enter Tryd.func38, Tryd.ntmps38
  simp only [List.append_eq, List.cons_append, List.nil_append]
  go_wp2
  go_ret
  exact ⟨rfl, (Below.refl _ w).alloc (Nat.le_refl _) _⟩
set_option maxHeartbeats 2000000 in
set_option maxRecDepth 8000 in
theorem bad4b (od : Option Addr) (cd : Nat) (ol : Option Addr) (cl : Nat) (ob : Option Addr) (cb : Nat) (w : World) (nm : ByteArray) (ll lb : Nat) (hl : (0 : Int) < (ll : Int)) : MayC 1 false od 0 cd nm 0 ol ll cl ob lb cb w false := by
  go_enter Tryd.func38, Tryd.ntmps38
  simp only [List.append_eq, List.cons_append, List.nil_append]
  go_wp2
  go_ret
  exact ⟨rfl, (Below.refl _ w).alloc (Nat.le_refl _) _⟩
set_option maxHeartbeats 2000000 in
set_option maxRecDepth 8000 in
theorem bad4c (od : Option Addr) (cd : Nat) (ol : Option Addr) (cl : Nat) (ob : Option Addr) (cb : Nat) (w : World) (nm : ByteArray) (n : Int) (ll lb : Nat) (hn : nm.toList = []) (hl : (0 : Int) < (ll : Int)) : MayC 2 false od 0 cd nm n ol ll cl ob lb cb w false := by
  go_enter Tryd.func38, Tryd.ntmps38
  simp only [List.append_eq, List.cons_append, List.nil_append]
  go_wp2
  go_ret
  exact ⟨rfl, (Below.refl _ w).alloc (Nat.le_refl _) _⟩
set_option maxHeartbeats 2000000 in
set_option maxRecDepth 8000 in
theorem bad4d (od : Option Addr) (cd : Nat) (ol : Option Addr) (cl : Nat) (ob : Option Addr) (cb : Nat) (w : World) (nm : ByteArray) (n : Int) (ll lb : Nat) (hn : nm.toList = []) (hl : (0 : Int) < (ll : Int)) : MayC 3 false od 0 cd nm n ol ll cl ob lb cb w false := by
  go_enter Tryd.func38, Tryd.ntmps38
  simp only [List.append_eq, List.cons_append, List.nil_append]
  go_wp2
  go_ret
  exact ⟨rfl, (Below.refl _ w).alloc (Nat.le_refl _) _⟩
set_option maxHeartbeats 2000000 in
set_option maxRecDepth 8000 in
theorem bad4e (od : Option Addr) (cd : Nat) (ol : Option Addr) (cl : Nat) (ob : Option Addr) (cb : Nat) (w : World) (k : Int) (nm : ByteArray) (ll lb : Nat) (h0 : (k != 0) = true) (h1 : (k != 1) = true) (h2 : (k != 2) = true) (h3 : (k != 3) = true) (h4 : (k != 4) = true) (h6 : (k != 6) = true) (hn : nm.toList = []) (hl : (0 : Int) < (ll : Int)) : MayC k false od 0 cd nm 0 ol ll cl ob lb cb w false := by
  go_enter Tryd.func38, Tryd.ntmps38
  simp only [List.append_eq, List.cons_append, List.nil_append]
  go_wp2
  go_ret
  exact ⟨rfl, (Below.refl _ w).alloc (Nat.le_refl _) _⟩
set_option maxHeartbeats 2000000 in
set_option maxRecDepth 8000 in
theorem bad5a (od : Option Addr) (cd : Nat) (ol : Option Addr) (cl : Nat) (ob : Option Addr) (cb : Nat) (w : World) (neg : Bool) (ld : Nat) (nm : ByteArray) (lb : Nat) (hn : nm.toList = []) (hb : (0 : Int) < (lb : Int)) : MayC 0 neg od ld cd nm 0 ol 0 cl ob lb cb w false := by
  go_enter Tryd.func38, Tryd.ntmps38
  simp only [List.append_eq, List.cons_append, List.nil_append]
  go_wp2
  go_ret
  exact ⟨rfl, (Below.refl _ w).alloc (Nat.le_refl _) _⟩
set_option maxHeartbeats 2000000 in
set_option maxRecDepth 8000 in
theorem bad5b (od : Option Addr) (cd : Nat) (ol : Option Addr) (cl : Nat) (ob : Option Addr) (cb : Nat) (w : World) (nm : ByteArray) (lb : Nat) (hb : (0 : Int) < (lb : Int)) : MayC 1 false od 0 cd nm 0 ol 0 cl ob lb cb w false := by
  go_enter Tryd.func38, Tryd.ntmps38
  simp only [List.append_eq, List.cons_append, List.nil_append]
  go_wp2
  go_ret
  exact ⟨rfl, (Below.refl _ w).alloc (Nat.le_refl _) _⟩
set_option maxHeartbeats 2000000 in
set_option maxRecDepth 8000 in
theorem bad5c (od : Option Addr) (cd : Nat) (ol : Option Addr) (cl : Nat) (ob : Option Addr) (cb : Nat) (w : World) (nm : ByteArray) (n : Int) (lb : Nat) (hn : nm.toList = []) (hb : (0 : Int) < (lb : Int)) : MayC 2 false od 0 cd nm n ol 0 cl ob lb cb w false := by
  go_enter Tryd.func38, Tryd.ntmps38
  simp only [List.append_eq, List.cons_append, List.nil_append]
  go_wp2
  go_ret
  exact ⟨rfl, (Below.refl _ w).alloc (Nat.le_refl _) _⟩
set_option maxHeartbeats 2000000 in
set_option maxRecDepth 8000 in
theorem bad5d (od : Option Addr) (cd : Nat) (ol : Option Addr) (cl : Nat) (ob : Option Addr) (cb : Nat) (w : World) (nm : ByteArray) (n : Int) (lb : Nat) (hn : nm.toList = []) (hb : (0 : Int) < (lb : Int)) : MayC 3 false od 0 cd nm n ol 0 cl ob lb cb w false := by
  go_enter Tryd.func38, Tryd.ntmps38
  simp only [List.append_eq, List.cons_append, List.nil_append]
  go_wp2
  go_ret
  exact ⟨rfl, (Below.refl _ w).alloc (Nat.le_refl _) _⟩
set_option maxHeartbeats 2000000 in
set_option maxRecDepth 8000 in
theorem bad5e (od : Option Addr) (cd : Nat) (ol : Option Addr) (cl : Nat) (ob : Option Addr) (cb : Nat) (w : World) (nm : ByteArray) (ll lb : Nat) (hn : nm.toList = []) (hb : (0 : Int) < (lb : Int)) : MayC 4 false od 0 cd nm 0 ol ll cl ob lb cb w false := by
  go_enter Tryd.func38, Tryd.ntmps38
  simp only [List.append_eq, List.cons_append, List.nil_append]
  go_wp2
  go_ret
  exact ⟨rfl, (Below.refl _ w).alloc (Nat.le_refl _) _⟩
set_option maxHeartbeats 2000000 in
set_option maxRecDepth 8000 in
theorem bad5f (od : Option Addr) (cd : Nat) (ol : Option Addr) (cl : Nat) (ob : Option Addr) (cb : Nat) (w : World) (nm : ByteArray) (ll lb : Nat) (hn : nm.toList = []) (hb : (0 : Int) < (lb : Int)) : MayC 6 false od 0 cd nm 0 ol ll cl ob lb cb w false := by
  go_enter Tryd.func38, Tryd.ntmps38
  simp only [List.append_eq, List.cons_append, List.nil_append]
  go_wp2
  go_ret
  exact ⟨rfl, (Below.refl _ w).alloc (Nat.le_refl _) _⟩
set_option maxHeartbeats 2000000 in
set_option maxRecDepth 8000 in
theorem bad5g (od : Option Addr) (cd : Nat) (ol : Option Addr) (cl : Nat) (ob : Option Addr) (cb : Nat) (w : World) (k : Int) (nm : ByteArray) (lb : Nat) (h0 : (k != 0) = true) (h1 : (k != 1) = true) (h2 : (k != 2) = true) (h3 : (k != 3) = true) (h4 : (k != 4) = true) (h6 : (k != 6) = true) (h7 : (k != 7) = true) (hn : nm.toList = []) (hb : (0 : Int) < (lb : Int)) : MayC k false od 0 cd nm 0 ol 0 cl ob lb cb w false := by
  go_enter Tryd.func38, Tryd.ntmps38
  simp only [List.append_eq, List.cons_append, List.nil_append]
  go_wp2
  go_ret
  exact ⟨rfl, (Below.refl _ w).alloc (Nat.le_refl _) _⟩
end Go.Proofs.YtpdoepjnkgffpaaDoor
namespace Go.Proofs.YtpdoepjnkgffpaaDoor
open Go.ChangeShapes Go.WideShapes Go.ChangeAt Go.RowKit Go.Shelf
set_option linter.unusedSimpArgs false
set_option linter.unusedVariables false
set_option maxRecDepth 2000
set_option maxHeartbeats 2000000 in
set_option maxRecDepth 8000 in
theorem pass5 (od : Option Addr) (cd : Nat) (ol : Option Addr) (cl : Nat) (ob : Option Addr) (cb : Nat) (w : World) (nm : ByteArray) (hn : nm.toList = []) : MayC 5 false od 0 cd nm 0 ol 0 cl ob 0 cb w true := by
  go_enter Tryd.func38, Tryd.ntmps38
  simp only [List.append_eq, List.cons_append, List.nil_append]
  go_wp2
  go_ret
  exact ⟨rfl, (Below.refl _ w).alloc (Nat.le_refl _) _⟩
set_option maxHeartbeats 2000000 in
set_option maxRecDepth 8000 in
theorem passx (od : Option Addr) (cd : Nat) (ol : Option Addr) (cl : Nat) (ob : Option Addr) (cb : Nat) (w : World) (k : Int) (nm : ByteArray) (hn : nm.toList = []) (h0 : (k != 0) = true) (h1 : (k != 1) = true) (h2 : (k != 2) = true) (h3 : (k != 3) = true) (h4 : (k != 4) = true) (h6 : (k != 6) = true) (h7 : (k != 7) = true) (e0 : (k == 0) = false) (e1 : (k == 1) = false) (e2 : (k == 2) = false) (e3 : (k == 3) = false) (e4 : (k == 4) = false) (e5 : (k == 5) = false) (e6 : (k == 6) = false) (e7 : (k == 7) = false) : MayC k false od 0 cd nm 0 ol 0 cl ob 0 cb w false := by
  go_enter Tryd.func38, Tryd.ntmps38
  simp only [List.append_eq, List.cons_append, List.nil_append]
  go_wp2
  go_ret
  exact ⟨rfl, (Below.refl _ w).alloc (Nat.le_refl _) _⟩
set_option maxHeartbeats 2000000 in
set_option maxRecDepth 8000 in
theorem pass7 (od : Option Addr) (cd : Nat) (ol : Option Addr) (cl : Nat) (ob : Option Addr) (cb : Nat) (w : World) (nm : ByteArray) (lb : Nat) (hn : nm.toList = []) : MayC 7 false od 0 cd nm 0 ol 0 cl ob lb cb w (decide ((lb : Int) ≤ 4096)) := by
  obtain ⟨R, hR⟩ : ∃ R, decide ((lb : Int) ≤ 4096) = R := ⟨_, rfl⟩
  unfold MayC
  rw [hR]
  have hHR := hid hR
  clear hR
  go_enter Tryd.func38, Tryd.ntmps38
  simp only [List.append_eq, List.cons_append, List.nil_append]
  go_wp2
  all_goals (
    go_ret
    refine ⟨?_, (Below.refl _ w).alloc (Nat.le_refl _) _⟩
    rw [← hHR.out]
    first | rfl | (simp [*]; done))
set_option maxHeartbeats 2000000 in
set_option maxRecDepth 8000 in
theorem pass2 (od : Option Addr) (cd : Nat) (ol : Option Addr) (cl : Nat) (ob : Option Addr) (cb : Nat) (w : World) (nm : ByteArray) (n : Int) (hn : nm.toList = []) : MayC 2 false od 0 cd nm n ol 0 cl ob 0 cb w (decide (0 ≤ n) && decide (n ≤ 1073741824)) := by
  obtain ⟨R, hR⟩ : ∃ R, (decide (0 ≤ n) && decide (n ≤ 1073741824)) = R := ⟨_, rfl⟩
  unfold MayC
  rw [hR]
  have hHR := hid hR
  clear hR
  go_enter Tryd.func38, Tryd.ntmps38
  simp only [List.append_eq, List.cons_append, List.nil_append]
  go_wp2
  all_goals (
    go_ret
    refine ⟨?_, (Below.refl _ w).alloc (Nat.le_refl _) _⟩
    rw [← hHR.out]
    first | rfl | (simp [*]; done) | (simp [*]; omega) | (simp; omega))
set_option maxHeartbeats 2000000 in
set_option maxRecDepth 8000 in
theorem pass3 (od : Option Addr) (cd : Nat) (ol : Option Addr) (cl : Nat) (ob : Option Addr) (cb : Nat) (w : World) (nm : ByteArray) (n : Int) (hn : nm.toList = []) : MayC 3 false od 0 cd nm n ol 0 cl ob 0 cb w (decide (0 ≤ n) && decide (n ≤ 1073741824)) := by
  obtain ⟨R, hR⟩ : ∃ R, (decide (0 ≤ n) && decide (n ≤ 1073741824)) = R := ⟨_, rfl⟩
  unfold MayC
  rw [hR]
  have hHR := hid hR
  clear hR
  go_enter Tryd.func38, Tryd.ntmps38
  simp only [List.append_eq, List.cons_append, List.nil_append]
  go_wp2
  all_goals (
    go_ret
    refine ⟨?_, (Below.refl _ w).alloc (Nat.le_refl _) _⟩
    rw [← hHR.out]
    first | rfl | (simp [*]; done) | (simp [*]; omega) | (simp; omega))
set_option maxHeartbeats 2000000 in
set_option maxRecDepth 8000 in
theorem pass1 (od : Option Addr) (cd : Nat) (ol : Option Addr) (cl : Nat) (ob : Option Addr) (cb : Nat) (w : World) (nm : ByteArray) (hs : nm.size ≤ 1000000) (hTa : Tabs w) : MayC 1 false od 0 cd nm 0 ol 0 cl ob 0 cb w (decide (0 ≤ countZ nm.data.toList) && decide (countZ nm.data.toList ≤ 255)) := by
  obtain ⟨R, hR⟩ : ∃ R, (decide (0 ≤ countZ nm.data.toList) && decide (countZ nm.data.toList ≤ 255)) = R := ⟨_, rfl⟩
  unfold MayC
  rw [hR]
  have hHR := hid hR
  clear hR
  obtain ⟨kX, hBX, hz0⟩ := bx1 w (.int .i64 1) (.bool false) (.slice od 0 cd) (.string nm) (.int .i64 0) (.slice ol 0 cl) (.slice ob 0 cb) 31
  have hTa1 := hTa.below hBX
  go_enter Tryd.func38, Tryd.ntmps38
  simp only [List.append_eq, List.cons_append, List.nil_append]
  go_wp2_with fail
  generalize (w.alloc (.cells #[.int .i64 1, .bool false, .slice od 0 cd, .string nm, .int .i64 0, .slice ol 0 cl, .slice ob 0 cb] 31)) = W0 at *
  refine (rvalid_w nm _ (by omega) hTa1).mono ?_
  rintro e w1 ⟨rfl, b1⟩
  have hB1 := below_and hBX (by omega) b1
  obtain ⟨x0, x1, x2, x3, x4, x5, x6⟩ := (kX.below b1).res
  by_cases hv : Lib.validD nm.data.toList = true
  · rw [hv]
    go_wp2_with fail
    refine (rcount_w nm _ (by omega) (hTa1.below b1)).mono ?_
    rintro e w2 ⟨rfl, b2⟩
    have hB2 := below_and hB1 (by omega) b2
    have hc : countZ nm.data.toList = ((sg nm.data.toList).length : Int) := by unfold countZ; rw [if_pos hv]
    obtain ⟨c, hcc⟩ : ∃ c, countZ nm.data.toList = c := ⟨_, rfl⟩
    have h0 : 0 ≤ c := by rw [← hcc, hc]; omega
    rw [hcc]
    have hHc := hid hcc
    clear hc hcc
    go_wp2
    all_goals (
      go_ret
      refine ⟨?_, hB2⟩
      have hq := hHR.out
      rw [hHc.out, decide_eq_true h0, Bool.true_and] at hq
      rw [← hq]
      clear hq
      first | rfl | (simp [*]; done))
  · have hv' : Lib.validD nm.data.toList = false := by simpa using hv
    rw [hv']
    have hc : countZ nm.data.toList = -1 := by unfold countZ; rw [if_neg hv]
    have hRf : R = false := by rw [← hHR.out, hc]; rfl
    subst hRf
    clear hHR hv hv' hc
    go_wp2
    go_ret
    exact ⟨rfl, hB1⟩
end Go.Proofs.YtpdoepjnkgffpaaDoor
namespace Go.Proofs.YtpdoepjnkgffpaaDoor
open Go.ChangeShapes Go.WideShapes Go.ChangeAt Go.RowKit Go.Shelf
set_option linter.unusedSimpArgs false
set_option linter.unusedVariables false
set_option maxRecDepth 2000
set_option maxHeartbeats 4000000 in
set_option maxRecDepth 8000 in
theorem pass0 (od : Option Addr) (cd : Nat) (ol : Option Addr) (cl : Nat) (ob : Option Addr) (cb : Nat) (w : World) (neg : Bool) (d : List Nat) (nm : ByteArray) (hn : nm.toList = []) (hd' : d.length ≤ 1000000) (hm' : Lm 4294967296 d) (hcd' : d.length ≤ cd) (hL : Ls (Low w) od (lim d) w) :
    MayC 0 neg od d.length cd nm 0 ol 0 cl ob 0 cb w (decide ((d.length : Int) ≤ 64) && normB neg d) := by
  obtain ⟨R, hR⟩ : ∃ R, (decide ((d.length : Int) ≤ 64) && normB neg d) = R := ⟨_, rfl⟩
  unfold MayC
  rw [hR]
  have hHR := hid hR
  clear hR
  obtain ⟨kX, hBX, hz0⟩ := bx1 w (.int .i64 0) (.bool neg) (.slice od d.length cd) (.string nm) (.int .i64 0) (.slice ol 0 cl) (.slice ob 0 cb) 31
  obtain ⟨Z, hZ'⟩ : ∃ Z, sv neg (gval 4294967296 d) = Z := ⟨_, rfl⟩
  obtain ⟨nB, hnB'⟩ : ∃ nB, normB neg d = nB := ⟨_, rfl⟩
  have hnB := hid hnB'
  have hZ := hid hZ'
  have hm := hid hm'
  have hd := hid hd'
  have hcd := hid hcd'
  go_enter Tryd.func38, Tryd.ntmps38
  simp only [List.append_eq, List.cons_append, List.nil_append]
  go_upto_region 5 with fail
  generalize (w.alloc (.cells #[.int .i64 0, .bool neg, .slice od d.length cd, .string nm, .int .i64 0, .slice ol 0 cl, .slice ob 0 cb] 31)) = W0 at *
  have hLx := hid (fun w' (hb : Below W0.heap.size W0 w') => ((hL.zs (fun k hk => hBX.block k hk)).mono (fun k hk _ => hk) : Ls (Low W0) od (lim d) W0).zs (fun k hk => hb.block k hk) |>.lies)
  have hNX := hid (fun w' (hb : Below W0.heap.size W0 w') => (show IsN (.agg #[.bool neg, .slice od d.length cd]) Z 1000000 w' from ⟨neg, od, d, cd, rfl, hLx.out w' hb, hcd', hm', hZ', hd'⟩))
  have hS : Hid (∀ w', Below W0.heap.size W0 w' → (w'.cell? ⟨w.heap.size, 1, none⟩ = some (.bool neg) ∧ w'.cell? ⟨w.heap.size, 2, none⟩ = some (.slice od d.length cd))) := hid (fun w' hb => by
    obtain ⟨t0, t1, t2, t3, t4, t5, t6⟩ := (kX.below hb).res
    exact ⟨t1, t2⟩)
  have hDr : Below W0.heap.size W0 W0.drew := (Below.refl _ W0).drew
  have hzz : w.heap.size ≤ w.heap.size := Nat.le_refl _
  have hBh := hid hBX
  clear hZ' hnB' hm' hd' hcd' hL hBX kX hz0
  refine wp_region_held_drew (S := fun w' => w'.cell? ⟨w.heap.size, 1, none⟩ = some (.bool neg) ∧ w'.cell? ⟨w.heap.size, 2, none⟩ = some (.slice od d.length cd)) (by kernel_rfl) (by first | exact hS.out _ (Below.refl _ _) | exact hS.out _ hDr) (fun hHeld => ?_)
  by_cases h64 : (d.length : Int) ≤ 64
  · have hRn : R = nB := by rw [← hHR.out, decide_eq_true h64, Bool.true_and, hnB.out]
    subst hRn
    clear hHR
    refine wpAnyH_take (i := 0) (oi := _) (v := ?_) rfl (by kernel_rfl) (by kernel_rfl) (by kernel_rfl) (fun _ _ _ h => h) (Or.inl ⟨by rfl, ?_⟩) (by assumption) ?_
    rotate_left 1
    · (intro w hSw; (try dsimp only at hSw); go_simp; try with_reducible rfl)
    try simp (maxSteps := 10000000) only [List.getElem_toArray, List.getElem_cons_succ, List.getElem_cons_zero, Act.put, List.setIfInBounds_toArray, List.set_cons_zero, List.set_cons_succ]
    refine wpAnyH_take (i := 1) (oi := _) (v := ?_) rfl (by kernel_rfl) (by kernel_rfl) (by kernel_rfl) (fun _ _ _ h => h) (Or.inl ⟨by rfl, ?_⟩) (by assumption) ?_
    rotate_left 1
    · (intro w hSw; (try dsimp only at hSw); go_simp; try with_reducible rfl)
    try simp (maxSteps := 10000000) only [List.getElem_toArray, List.getElem_cons_succ, List.getElem_cons_zero, Act.put, List.setIfInBounds_toArray, List.set_cons_zero, List.set_cons_succ]
    refine wpAnyH_take (i := 2) (oi := _) (v := ?_) rfl (by kernel_rfl) (by kernel_rfl) (by kernel_rfl) (fun _ _ _ h => h) (Or.inl ⟨by rfl, ?_⟩) (by assumption) ?_
    rotate_left 1
    · (intro w hSw; (try dsimp only at hSw); go_simp; try with_reducible rfl)
    try simp (maxSteps := 10000000) only [List.getElem_toArray, List.getElem_cons_succ, List.getElem_cons_zero, Act.put, List.setIfInBounds_toArray, List.set_cons_zero, List.set_cons_succ]
    refine wpAnyH_take (i := 3) (oi := _) (v := ?_) rfl (by kernel_rfl) (by kernel_rfl) (by kernel_rfl) (fun _ _ _ h => h) (Or.inl ⟨by rfl, ?_⟩) (by assumption) ?_
    rotate_left 1
    · (intro w hSw; (try dsimp only at hSw); go_simp; try with_reducible rfl)
    try simp (maxSteps := 10000000) only [List.getElem_toArray, List.getElem_cons_succ, List.getElem_cons_zero, Act.put, List.setIfInBounds_toArray, List.set_cons_zero, List.set_cons_succ]
    refine wpAnyH_take (i := 4) (oi := _) (v := ?_) rfl (by kernel_rfl) (by kernel_rfl) (by kernel_rfl) (fun _ _ _ h => h) (Or.inl ⟨by rfl, ?_⟩) (by assumption) ?_
    rotate_left 1
    · (intro w hSw; (try dsimp only at hSw); go_simp; try with_reducible rfl)
    try simp (maxSteps := 10000000) only [List.getElem_toArray, List.getElem_cons_succ, List.getElem_cons_zero, Act.put, List.setIfInBounds_toArray, List.set_cons_zero, List.set_cons_succ]
    refine wpAnyH_take (i := 5) (oi := _) (v := ?_) rfl (by kernel_rfl) (by kernel_rfl) (by kernel_rfl) (fun _ _ _ h => h) (Or.inl ⟨by rfl, ?_⟩) (by assumption) ?_
    rotate_left 1
    · (intro w hSw; (try dsimp only at hSw); go_simp; try with_reducible rfl)
    try simp (maxSteps := 10000000) only [List.getElem_toArray, List.getElem_cons_succ, List.getElem_cons_zero, Act.put, List.setIfInBounds_toArray, List.set_cons_zero, List.set_cons_succ]
    refine wpAnyH_take (i := 6) (oi := _) (v := ?_) rfl (by kernel_rfl) (by kernel_rfl) (by kernel_rfl) (fun _ _ _ h => h) (Or.inl ⟨by rfl, ?_⟩) (by assumption) ?_
    rotate_left 1
    · (intro w hSw; (try dsimp only at hSw); go_simp; try with_reducible rfl)
    try simp (maxSteps := 10000000) only [List.getElem_toArray, List.getElem_cons_succ, List.getElem_cons_zero, Act.put, List.setIfInBounds_toArray, List.set_cons_zero, List.set_cons_succ]
    refine wpAnyH_take (i := 7) (oi := _) (v := ?_) rfl (by kernel_rfl) (by kernel_rfl) (by kernel_rfl) (fun _ _ _ h => h) (Or.inl ⟨by rfl, ?_⟩) (by assumption) ?_
    rotate_left 1
    · (intro w hSw; (try dsimp only at hSw); go_simp; try with_reducible rfl)
    try simp (maxSteps := 10000000) only [List.getElem_toArray, List.getElem_cons_succ, List.getElem_cons_zero, Act.put, List.setIfInBounds_toArray, List.set_cons_zero, List.set_cons_succ]
    refine wpAnyH_take (i := 8) (oi := _) (v := ?_) rfl (by kernel_rfl) (by kernel_rfl) (by kernel_rfl) (fun _ _ _ h => h) (Or.inl ⟨by rfl, ?_⟩) (by assumption) ?_
    rotate_left 1
    · (intro w hSw; (try dsimp only at hSw); go_simp; try with_reducible rfl)
    try simp (maxSteps := 10000000) only [List.getElem_toArray, List.getElem_cons_succ, List.getElem_cons_zero, Act.put, List.setIfInBounds_toArray, List.set_cons_zero, List.set_cons_succ]
    refine wpAnyH_take (i := 9) (oi := _) (v := ?_) rfl (by kernel_rfl) (by kernel_rfl) (by kernel_rfl) (fun _ _ _ h => h) (Or.inl ⟨by rfl, ?_⟩) (by assumption) ?_
    rotate_left 1
    · (intro w hSw; (try dsimp only at hSw); go_simp; try with_reducible rfl)
    try simp (maxSteps := 10000000) only [List.getElem_toArray, List.getElem_cons_succ, List.getElem_cons_zero, Act.put, List.setIfInBounds_toArray, List.set_cons_zero, List.set_cons_succ]
    refine wpAnyH_take (i := 10) (oi := _) (v := ?_) rfl (by kernel_rfl) (by kernel_rfl) (by kernel_rfl) (fun _ _ _ h => h) (Or.inl ⟨by rfl, ?_⟩) (by assumption) ?_
    rotate_left 1
    · (intro w hSw; (try dsimp only at hSw); go_simp; try with_reducible rfl)
    try simp (maxSteps := 10000000) only [List.getElem_toArray, List.getElem_cons_succ, List.getElem_cons_zero, Act.put, List.setIfInBounds_toArray, List.set_cons_zero, List.set_cons_succ]
    refine wpAnyH_take (i := 11) (oi := _) (v := ?_) rfl (by kernel_rfl) (by kernel_rfl) (by kernel_rfl) (fun _ _ _ h => h) (Or.inl ⟨by rfl, ?_⟩) (by assumption) ?_
    rotate_left 1
    · (intro w hSw; (try dsimp only at hSw); go_simp; try with_reducible rfl)
    try simp (maxSteps := 10000000) only [List.getElem_toArray, List.getElem_cons_succ, List.getElem_cons_zero, Act.put, List.setIfInBounds_toArray, List.set_cons_zero, List.set_cons_succ]
    refine wpAnyH_take (i := 12) (oi := _) (v := ?_) rfl (by kernel_rfl) (by kernel_rfl) (by kernel_rfl) (fun _ _ _ h => h) (Or.inl ⟨by rfl, ?_⟩) (by assumption) ?_
    rotate_left 1
    · (intro w hSw; (try dsimp only at hSw); go_simp; try with_reducible rfl)
    try simp (maxSteps := 10000000) only [List.getElem_toArray, List.getElem_cons_succ, List.getElem_cons_zero, Act.put, List.setIfInBounds_toArray, List.set_cons_zero, List.set_cons_succ]
    refine wpAnyH_take (i := 13) (oi := _) (v := ?_) rfl (by kernel_rfl) (by kernel_rfl) (by kernel_rfl) (fun _ _ _ h => h) (Or.inl ⟨by rfl, ?_⟩) (by assumption) ?_
    rotate_left 1
    · (intro w hSw; (try dsimp only at hSw); go_simp; try with_reducible rfl)
    try simp (maxSteps := 10000000) only [List.getElem_toArray, List.getElem_cons_succ, List.getElem_cons_zero, Act.put, List.setIfInBounds_toArray, List.set_cons_zero, List.set_cons_succ]
    refine wpAnyH_take (i := 14) (oi := _) (v := ?_) rfl (by kernel_rfl) (by kernel_rfl) (by kernel_rfl) (fun _ _ _ h => h) (Or.inl ⟨by rfl, ?_⟩) (by assumption) ?_
    rotate_left 1
    · (intro w hSw; (try dsimp only at hSw); go_simp; try with_reducible rfl)
    try simp (maxSteps := 10000000) only [List.getElem_toArray, List.getElem_cons_succ, List.getElem_cons_zero, Act.put, List.setIfInBounds_toArray, List.set_cons_zero, List.set_cons_succ]
    refine wpAnyH_ready (rs := [15]) (by kernel_rfl) (by simp) ?_
    refine AllReadyH.cons rfl (fun K hK => ?_) AllReadyH.nil
    go_simp
    refine (rnorm_c _ Z 1000000 _ (by omega) (hNX.out _ hDr)).mono ?_
    rintro e wa ⟨ba, oa2, na2, ca2, rfl, hCa, bra⟩
    have c1 : Below W0.heap.size W0 wa := below_and hDr (Nat.le_refl _) bra
    try go_simp
    refine hK.out _ _ ?_ (fun hHeld => ?_)
    · exact hS.out _ (by assumption)
    clear hK K
    try simp (maxSteps := 10000000) only [List.getElem_toArray, List.getElem_cons_succ, List.getElem_cons_zero, Act.put, List.setIfInBounds_toArray, List.set_cons_zero, List.set_cons_succ]
    refine wpAnyH_ready (rs := [16]) (by kernel_rfl) (by simp) ?_
    refine AllReadyH.cons rfl (fun K hK => ?_) AllReadyH.nil
    go_simp
    refine (sameNorm_w neg d od oa2 cd ca2 ba na2 1000000 _ (by omega) hm.out ((hLx.out _ c1)) hd.out hcd.out (by rw [hZ.out]; exact hCa)).mono ?_
    rintro e wb ⟨rfl, brb⟩
    rw [hnB.out]
    have c2 : Below W0.heap.size W0 wb := below_and c1 (Nat.le_refl _) brb
    try go_simp
    refine hK.out _ _ ?_ (fun hHeld => ?_)
    · exact hS.out _ (by assumption)
    clear hK K
    try simp (maxSteps := 10000000) only [List.getElem_toArray, List.getElem_cons_succ, List.getElem_cons_zero, Act.put, List.setIfInBounds_toArray, List.set_cons_zero, List.set_cons_succ]
    refine wpAnyH_take (i := 17) (oi := _) (v := ?_) rfl (by kernel_rfl) (by kernel_rfl) (by kernel_rfl) (fun _ _ _ h => h) (Or.inl ⟨by rfl, ?_⟩) (by assumption) ?_
    rotate_left 1
    · (intro w hSw; (try dsimp only at hSw); go_simp; try with_reducible rfl)
    try simp (maxSteps := 10000000) only [List.getElem_toArray, List.getElem_cons_succ, List.getElem_cons_zero, Act.put, List.setIfInBounds_toArray, List.set_cons_zero, List.set_cons_succ]
    refine wpAnyH_take (i := 18) (oi := _) (v := ?_) rfl (by kernel_rfl) (by kernel_rfl) (by kernel_rfl) (fun _ _ _ h => h) (Or.inl ⟨by rfl, ?_⟩) (by assumption) ?_
    rotate_left 1
    · (intro w hSw; (try dsimp only at hSw); go_simp; try with_reducible rfl)
    try simp (maxSteps := 10000000) only [List.getElem_toArray, List.getElem_cons_succ, List.getElem_cons_zero, Act.put, List.setIfInBounds_toArray, List.set_cons_zero, List.set_cons_succ]
    refine wpAnyH_done (by kernel_rfl) ?_ _
    go_wp2
    go_ret
    exact ⟨rfl, below_and hBh.out (Nat.le_refl _) c2⟩
  · have hRn : R = false := by rw [← hHR.out, decide_eq_false h64, Bool.false_and]
    subst hRn
    clear hHR
    refine wpAnyH_take (i := 0) (oi := _) (v := ?_) rfl (by kernel_rfl) (by kernel_rfl) (by kernel_rfl) (fun _ _ _ h => h) (Or.inl ⟨by rfl, ?_⟩) (by assumption) ?_
    rotate_left 1
    · (intro w hSw; (try dsimp only at hSw); go_simp; try with_reducible rfl)
    try simp (maxSteps := 10000000) only [List.getElem_toArray, List.getElem_cons_succ, List.getElem_cons_zero, Act.put, List.setIfInBounds_toArray, List.set_cons_zero, List.set_cons_succ]
    refine wpAnyH_take (i := 1) (oi := _) (v := ?_) rfl (by kernel_rfl) (by kernel_rfl) (by kernel_rfl) (fun _ _ _ h => h) (Or.inl ⟨by rfl, ?_⟩) (by assumption) ?_
    rotate_left 1
    · (intro w hSw; (try dsimp only at hSw); go_simp; try with_reducible rfl)
    try simp (maxSteps := 10000000) only [List.getElem_toArray, List.getElem_cons_succ, List.getElem_cons_zero, Act.put, List.setIfInBounds_toArray, List.set_cons_zero, List.set_cons_succ]
    refine wpAnyH_take (i := 2) (oi := _) (v := ?_) rfl (by kernel_rfl) (by kernel_rfl) (by kernel_rfl) (fun _ _ _ h => h) (Or.inl ⟨by rfl, ?_⟩) (by assumption) ?_
    rotate_left 1
    · (intro w hSw; (try dsimp only at hSw); go_simp; try with_reducible rfl)
    try simp (maxSteps := 10000000) only [List.getElem_toArray, List.getElem_cons_succ, List.getElem_cons_zero, Act.put, List.setIfInBounds_toArray, List.set_cons_zero, List.set_cons_succ]
    refine wpAnyH_take (i := 3) (oi := _) (v := ?_) rfl (by kernel_rfl) (by kernel_rfl) (by kernel_rfl) (fun _ _ _ h => h) (Or.inl ⟨by rfl, ?_⟩) (by assumption) ?_
    rotate_left 1
    · (intro w hSw; (try dsimp only at hSw); go_simp; try with_reducible rfl)
    try simp (maxSteps := 10000000) only [List.getElem_toArray, List.getElem_cons_succ, List.getElem_cons_zero, Act.put, List.setIfInBounds_toArray, List.set_cons_zero, List.set_cons_succ]
    refine wpAnyH_take (i := 4) (oi := _) (v := ?_) rfl (by kernel_rfl) (by kernel_rfl) (by kernel_rfl) (fun _ _ _ h => h) (Or.inl ⟨by rfl, ?_⟩) (by assumption) ?_
    rotate_left 1
    · (intro w hSw; (try dsimp only at hSw); go_simp; try with_reducible rfl)
    try simp (maxSteps := 10000000) only [List.getElem_toArray, List.getElem_cons_succ, List.getElem_cons_zero, Act.put, List.setIfInBounds_toArray, List.set_cons_zero, List.set_cons_succ]
    refine wpAnyH_take (i := 5) (oi := _) (v := undef) rfl (by kernel_rfl) (by kernel_rfl) (by kernel_rfl) (fun _ _ _ h => h) (Or.inr ⟨by rfl, rfl⟩) (by assumption) ?_
    try simp (maxSteps := 10000000) only [List.getElem_toArray, List.getElem_cons_succ, List.getElem_cons_zero, Act.put, List.setIfInBounds_toArray, List.set_cons_zero, List.set_cons_succ]
    refine wpAnyH_take (i := 6) (oi := _) (v := undef) rfl (by kernel_rfl) (by kernel_rfl) (by kernel_rfl) (fun _ _ _ h => h) (Or.inr ⟨by rfl, rfl⟩) (by assumption) ?_
    try simp (maxSteps := 10000000) only [List.getElem_toArray, List.getElem_cons_succ, List.getElem_cons_zero, Act.put, List.setIfInBounds_toArray, List.set_cons_zero, List.set_cons_succ]
    refine wpAnyH_take (i := 7) (oi := _) (v := undef) rfl (by kernel_rfl) (by kernel_rfl) (by kernel_rfl) (fun _ _ _ h => h) (Or.inr ⟨by rfl, rfl⟩) (by assumption) ?_
    try simp (maxSteps := 10000000) only [List.getElem_toArray, List.getElem_cons_succ, List.getElem_cons_zero, Act.put, List.setIfInBounds_toArray, List.set_cons_zero, List.set_cons_succ]
    refine wpAnyH_take (i := 8) (oi := _) (v := undef) rfl (by kernel_rfl) (by kernel_rfl) (by kernel_rfl) (fun _ _ _ h => h) (Or.inr ⟨by rfl, rfl⟩) (by assumption) ?_
    try simp (maxSteps := 10000000) only [List.getElem_toArray, List.getElem_cons_succ, List.getElem_cons_zero, Act.put, List.setIfInBounds_toArray, List.set_cons_zero, List.set_cons_succ]
    refine wpAnyH_take (i := 9) (oi := _) (v := undef) rfl (by kernel_rfl) (by kernel_rfl) (by kernel_rfl) (fun _ _ _ h => h) (Or.inr ⟨by rfl, rfl⟩) (by assumption) ?_
    try simp (maxSteps := 10000000) only [List.getElem_toArray, List.getElem_cons_succ, List.getElem_cons_zero, Act.put, List.setIfInBounds_toArray, List.set_cons_zero, List.set_cons_succ]
    refine wpAnyH_take (i := 10) (oi := _) (v := undef) rfl (by kernel_rfl) (by kernel_rfl) (by kernel_rfl) (fun _ _ _ h => h) (Or.inr ⟨by rfl, rfl⟩) (by assumption) ?_
    try simp (maxSteps := 10000000) only [List.getElem_toArray, List.getElem_cons_succ, List.getElem_cons_zero, Act.put, List.setIfInBounds_toArray, List.set_cons_zero, List.set_cons_succ]
    refine wpAnyH_take (i := 11) (oi := _) (v := undef) rfl (by kernel_rfl) (by kernel_rfl) (by kernel_rfl) (fun _ _ _ h => h) (Or.inr ⟨by rfl, rfl⟩) (by assumption) ?_
    try simp (maxSteps := 10000000) only [List.getElem_toArray, List.getElem_cons_succ, List.getElem_cons_zero, Act.put, List.setIfInBounds_toArray, List.set_cons_zero, List.set_cons_succ]
    refine wpAnyH_take (i := 12) (oi := _) (v := undef) rfl (by kernel_rfl) (by kernel_rfl) (by kernel_rfl) (fun _ _ _ h => h) (Or.inr ⟨by rfl, rfl⟩) (by assumption) ?_
    try simp (maxSteps := 10000000) only [List.getElem_toArray, List.getElem_cons_succ, List.getElem_cons_zero, Act.put, List.setIfInBounds_toArray, List.set_cons_zero, List.set_cons_succ]
    refine wpAnyH_take (i := 13) (oi := _) (v := undef) rfl (by kernel_rfl) (by kernel_rfl) (by kernel_rfl) (fun _ _ _ h => h) (Or.inr ⟨by rfl, rfl⟩) (by assumption) ?_
    try simp (maxSteps := 10000000) only [List.getElem_toArray, List.getElem_cons_succ, List.getElem_cons_zero, Act.put, List.setIfInBounds_toArray, List.set_cons_zero, List.set_cons_succ]
    refine wpAnyH_take (i := 14) (oi := _) (v := undef) rfl (by kernel_rfl) (by kernel_rfl) (by kernel_rfl) (fun _ _ _ h => h) (Or.inr ⟨by rfl, rfl⟩) (by assumption) ?_
    try simp (maxSteps := 10000000) only [List.getElem_toArray, List.getElem_cons_succ, List.getElem_cons_zero, Act.put, List.setIfInBounds_toArray, List.set_cons_zero, List.set_cons_succ]
    refine wpAnyH_take (i := 15) (oi := _) (v := undef) rfl (by kernel_rfl) (by kernel_rfl) (by kernel_rfl) (fun _ _ _ h => h) (Or.inr ⟨by rfl, rfl⟩) (by assumption) ?_
    try simp (maxSteps := 10000000) only [List.getElem_toArray, List.getElem_cons_succ, List.getElem_cons_zero, Act.put, List.setIfInBounds_toArray, List.set_cons_zero, List.set_cons_succ]
    refine wpAnyH_take (i := 16) (oi := _) (v := undef) rfl (by kernel_rfl) (by kernel_rfl) (by kernel_rfl) (fun _ _ _ h => h) (Or.inr ⟨by rfl, rfl⟩) (by assumption) ?_
    try simp (maxSteps := 10000000) only [List.getElem_toArray, List.getElem_cons_succ, List.getElem_cons_zero, Act.put, List.setIfInBounds_toArray, List.set_cons_zero, List.set_cons_succ]
    refine wpAnyH_take (i := 17) (oi := _) (v := ?_) rfl (by kernel_rfl) (by kernel_rfl) (by kernel_rfl) (fun _ _ _ h => h) (Or.inl ⟨by rfl, ?_⟩) (by assumption) ?_
    rotate_left 1
    · (intro w hSw; (try dsimp only at hSw); go_simp; try with_reducible rfl)
    try simp (maxSteps := 10000000) only [List.getElem_toArray, List.getElem_cons_succ, List.getElem_cons_zero, Act.put, List.setIfInBounds_toArray, List.set_cons_zero, List.set_cons_succ]
    refine wpAnyH_take (i := 18) (oi := _) (v := ?_) rfl (by kernel_rfl) (by kernel_rfl) (by kernel_rfl) (fun _ _ _ h => h) (Or.inl ⟨by rfl, ?_⟩) (by assumption) ?_
    rotate_left 1
    · (intro w hSw; (try dsimp only at hSw); go_simp; try with_reducible rfl)
    try simp (maxSteps := 10000000) only [List.getElem_toArray, List.getElem_cons_succ, List.getElem_cons_zero, Act.put, List.setIfInBounds_toArray, List.set_cons_zero, List.set_cons_succ]
    refine wpAnyH_done (by kernel_rfl) ?_ _
    go_wp2
    go_ret
    exact ⟨rfl, below_and hBh.out (Nat.le_refl _) hDr⟩
end Go.Proofs.YtpdoepjnkgffpaaDoor
namespace Go.Proofs.YtpdoepjnkgffpaaDoor
open Go.ChangeShapes Go.WideShapes Go.ChangeAt Go.RowKit Go.Shelf
set_option linter.unusedSimpArgs false
set_option linter.unusedVariables false
set_option maxRecDepth 2000
theorem nil_noS : noS.toList = [] := by decide +kernel
theorem all_lean {T : Tm} (h : leanB T = false) : (parts T).all fairB = false := by
  rw [parts_eq]
  simp [fairB, h]
theorem all_flat {k : Int} {neg : Bool} {d : List Nat} {nm : ByteArray} {n : Int} {l : List Tm} {b : List Nat} (hk : ¬ (k = 4 ∨ k = 6)) (h : leanB (.mk k neg d nm n l b) = true) : (parts (.mk k neg d nm n l b)).all fairB = withinB (.mk k neg d nm n l b) := by
  have hp : parts (.mk k neg d nm n l b) = [.mk k neg d nm n l b] := by simp [parts, hk]
  rw [hp]
  simp [fairB, h]
theorem len0 {α : Type} {l : List α} (h : ¬ (l.length : Int) = 0) : (0 : Int) < (l.length : Int) := by omega
theorem ne_true {k : Int} {c : Int} (h : ¬ k = c) : (k != c) = true := by simpa using h
theorem eq_false' {k : Int} {c : Int} (h : ¬ k = c) : (k == c) = false := by simpa using h
abbrev May0 (T : Tm) (v : Value) (w : World) : Prop := Calls Tryd.prog 38 #[v] w fun e w' => e = .returned (.bool ((parts T).all fairB)) ∧ Below w.heap.size w w'
theorem lnil {α : Type} {l : List α} (h : (l.length : Int) = 0) : l = [] := List.eq_nil_of_length_eq_zero (by omega)
theorem may_k0 {od ol ob : Option Addr} {cd cl cb : Nat} {w : World} {neg : Bool} {d : List Nat} {nm : ByteArray} {n : Int} {l : List Tm} {b : List Nat} (hok : (Tm.mk 0 neg d nm n l b).ok1) (hcd : d.length ≤ cd) (hL : Ls (Low w) od (lim d) w) : May0 (.mk 0 neg d nm n l b) (tmV 0 neg (.slice od d.length cd) nm n (.slice ol l.length cl) (.slice ob b.length cb)) w := by
  obtain ⟨hd, hs, _, _, hm⟩ : d.length ≤ 1000000 ∧ nm.size ≤ 1000000 ∧ l.length ≤ 1000000 ∧ b.length ≤ 1000000 ∧ Lm 4294967296 d := hok
  by_cases c2 : nm.toList = []
  case neg => unfold May0; rw [all_lean (by simp [leanB, prT, eqF, nil_noS, *])]; exact bad2a od cd ol cl ob cb w neg _ nm n _ _ c2
  by_cases c3 : n = 0
  case neg => unfold May0; rw [all_lean (by simp [leanB, prT, eqF, nil_noS, *])]; exact bad3a od cd ol cl ob cb w neg _ nm n _ _ c2 (ne_true c3)
  by_cases c4 : (l.length : Int) = 0
  case neg => unfold May0; rw [all_lean (by have : l ≠ [] := (fun e => c4 (by rw [e]; rfl)); simp [leanB, prT, eqF, nil_noS, *])]; subst c3; exact bad4a od cd ol cl ob cb w neg _ nm _ _ c2 (len0 c4)
  by_cases c5 : (b.length : Int) = 0
  case neg => unfold May0; rw [all_lean (by have : b ≠ [] := (fun e => c5 (by rw [e]; rfl)); simp [leanB, prT, eqF, nil_noS, *])]; subst c3; rw [lnil c4]; exact bad5a od cd ol cl ob cb w neg _ nm _ c2 (len0 c5)
  subst c3
  have e4 := lnil c4
  have e5 := lnil c5
  subst e4 e5
  unfold May0
  rw [all_flat (by decide) (by simp [leanB, prT, eqF, nil_noS, *])]
  have := pass0 od cd ol cl ob cb w neg d nm c2 hd hm hcd hL
  simpa [withinB] using this
theorem may_k1 {od ol ob : Option Addr} {cd cl cb : Nat} {w : World} {neg : Bool} {d : List Nat} {nm : ByteArray} {n : Int} {l : List Tm} {b : List Nat} (hok : (Tm.mk 1 neg d nm n l b).ok1) (hTa : Tabs w) : May0 (.mk 1 neg d nm n l b) (tmV 1 neg (.slice od d.length cd) nm n (.slice ol l.length cl) (.slice ob b.length cb)) w := by
  obtain ⟨hd, hs, _, _, hm⟩ : d.length ≤ 1000000 ∧ nm.size ≤ 1000000 ∧ l.length ≤ 1000000 ∧ b.length ≤ 1000000 ∧ Lm 4294967296 d := hok
  by_cases c0 : neg = true
  · subst c0; unfold May0; rw [all_lean (by simp [leanB, prT, eqF])]; exact bad1a od cd ol cl ob cb w 1 _ nm n _ _ rfl
  have c0' : neg = false := by simpa using c0
  subst c0'
  by_cases c1 : (d.length : Int) = 0
  case neg => unfold May0; rw [all_lean (by have : d ≠ [] := (fun e => c1 (by rw [e]; rfl)); simp [leanB, prT, eqF, *])]; exact bad1b od cd ol cl ob cb w 1 _ nm n _ _ rfl (len0 c1)
  by_cases c3 : n = 0
  case neg => unfold May0; rw [all_lean (by simp [leanB, prT, eqF, *])]; rw [lnil c1]; exact bad3b od cd ol cl ob cb w nm n _ _ (ne_true c3)
  by_cases c4 : (l.length : Int) = 0
  case neg => unfold May0; rw [all_lean (by have : l ≠ [] := (fun e => c4 (by rw [e]; rfl)); simp [leanB, prT, eqF, *])]; subst c3; rw [lnil c1]; exact bad4b od cd ol cl ob cb w nm _ _ (len0 c4)
  by_cases c5 : (b.length : Int) = 0
  case neg => unfold May0; rw [all_lean (by have : b ≠ [] := (fun e => c5 (by rw [e]; rfl)); simp [leanB, prT, eqF, *])]; subst c3; rw [lnil c1, lnil c4]; exact bad5b od cd ol cl ob cb w nm _ (len0 c5)
  subst c3
  have e1 := lnil c1
  have e4 := lnil c4
  have e5 := lnil c5
  subst e1 e4 e5
  unfold May0
  rw [all_flat (by decide) (by simp [leanB, prT, eqF])]
  have := pass1 od cd ol cl ob cb w nm hs hTa
  simpa [withinB] using this
theorem may_k2 {od ol ob : Option Addr} {cd cl cb : Nat} {w : World} {neg : Bool} {d : List Nat} {nm : ByteArray} {n : Int} {l : List Tm} {b : List Nat} : May0 (.mk 2 neg d nm n l b) (tmV 2 neg (.slice od d.length cd) nm n (.slice ol l.length cl) (.slice ob b.length cb)) w := by
  by_cases c0 : neg = true
  · subst c0; unfold May0; rw [all_lean (by simp [leanB, prT, eqF])]; exact bad1a od cd ol cl ob cb w 2 _ nm n _ _ rfl
  have c0' : neg = false := by simpa using c0
  subst c0'
  by_cases c1 : (d.length : Int) = 0
  case neg => unfold May0; rw [all_lean (by have : d ≠ [] := (fun e => c1 (by rw [e]; rfl)); simp [leanB, prT, eqF, *])]; exact bad1b od cd ol cl ob cb w 2 _ nm n _ _ rfl (len0 c1)
  by_cases c2 : nm.toList = []
  case neg => unfold May0; rw [all_lean (by simp [leanB, prT, eqF, nil_noS, *])]; rw [lnil c1]; exact bad2b od cd ol cl ob cb w 2 nm n _ _ rfl rfl c2
  by_cases c4 : (l.length : Int) = 0
  case neg => unfold May0; rw [all_lean (by have : l ≠ [] := (fun e => c4 (by rw [e]; rfl)); simp [leanB, prT, eqF, nil_noS, *])]; rw [lnil c1]; exact bad4c od cd ol cl ob cb w nm n _ _ c2 (len0 c4)
  by_cases c5 : (b.length : Int) = 0
  case neg => unfold May0; rw [all_lean (by have : b ≠ [] := (fun e => c5 (by rw [e]; rfl)); simp [leanB, prT, eqF, nil_noS, *])]; rw [lnil c1, lnil c4]; exact bad5c od cd ol cl ob cb w nm n _ c2 (len0 c5)
  have e1 := lnil c1
  have e4 := lnil c4
  have e5 := lnil c5
  subst e1 e4 e5
  unfold May0
  rw [all_flat (by decide) (by simp [leanB, prT, eqF, nil_noS, *])]
  have := pass2 od cd ol cl ob cb w nm n c2
  simpa [withinB] using this
theorem may_k3 {od ol ob : Option Addr} {cd cl cb : Nat} {w : World} {neg : Bool} {d : List Nat} {nm : ByteArray} {n : Int} {l : List Tm} {b : List Nat} : May0 (.mk 3 neg d nm n l b) (tmV 3 neg (.slice od d.length cd) nm n (.slice ol l.length cl) (.slice ob b.length cb)) w := by
  by_cases c0 : neg = true
  · subst c0; unfold May0; rw [all_lean (by simp [leanB, prT, eqF])]; exact bad1a od cd ol cl ob cb w 3 _ nm n _ _ rfl
  have c0' : neg = false := by simpa using c0
  subst c0'
  by_cases c1 : (d.length : Int) = 0
  case neg => unfold May0; rw [all_lean (by have : d ≠ [] := (fun e => c1 (by rw [e]; rfl)); simp [leanB, prT, eqF, *])]; exact bad1b od cd ol cl ob cb w 3 _ nm n _ _ rfl (len0 c1)
  by_cases c2 : nm.toList = []
  case neg => unfold May0; rw [all_lean (by simp [leanB, prT, eqF, nil_noS, *])]; rw [lnil c1]; exact bad2b od cd ol cl ob cb w 3 nm n _ _ rfl rfl c2
  by_cases c4 : (l.length : Int) = 0
  case neg => unfold May0; rw [all_lean (by have : l ≠ [] := (fun e => c4 (by rw [e]; rfl)); simp [leanB, prT, eqF, nil_noS, *])]; rw [lnil c1]; exact bad4d od cd ol cl ob cb w nm n _ _ c2 (len0 c4)
  by_cases c5 : (b.length : Int) = 0
  case neg => unfold May0; rw [all_lean (by have : b ≠ [] := (fun e => c5 (by rw [e]; rfl)); simp [leanB, prT, eqF, nil_noS, *])]; rw [lnil c1, lnil c4]; exact bad5d od cd ol cl ob cb w nm n _ c2 (len0 c5)
  have e1 := lnil c1
  have e4 := lnil c4
  have e5 := lnil c5
  subst e1 e4 e5
  unfold May0
  rw [all_flat (by decide) (by simp [leanB, prT, eqF, nil_noS, *])]
  have := pass3 od cd ol cl ob cb w nm n c2
  simpa [withinB] using this
theorem may_k7 {od ol ob : Option Addr} {cd cl cb : Nat} {w : World} {neg : Bool} {d : List Nat} {nm : ByteArray} {n : Int} {l : List Tm} {b : List Nat} : May0 (.mk 7 neg d nm n l b) (tmV 7 neg (.slice od d.length cd) nm n (.slice ol l.length cl) (.slice ob b.length cb)) w := by
  by_cases c0 : neg = true
  · subst c0; unfold May0; rw [all_lean (by simp [leanB, prT, eqF])]; exact bad1a od cd ol cl ob cb w 7 _ nm n _ _ rfl
  have c0' : neg = false := by simpa using c0
  subst c0'
  by_cases c1 : (d.length : Int) = 0
  case neg => unfold May0; rw [all_lean (by have : d ≠ [] := (fun e => c1 (by rw [e]; rfl)); simp [leanB, prT, eqF, *])]; exact bad1b od cd ol cl ob cb w 7 _ nm n _ _ rfl (len0 c1)
  by_cases c2 : nm.toList = []
  case neg => unfold May0; rw [all_lean (by simp [leanB, prT, eqF, nil_noS, *])]; rw [lnil c1]; exact bad2b od cd ol cl ob cb w 7 nm n _ _ rfl rfl c2
  by_cases c3 : n = 0
  case neg => unfold May0; rw [all_lean (by simp [leanB, prT, eqF, nil_noS, *])]; rw [lnil c1]; exact bad3c od cd ol cl ob cb w 7 nm n _ _ rfl rfl rfl rfl c2 (ne_true c3)
  by_cases c4 : (l.length : Int) = 0
  case neg => unfold May0; rw [all_lean (by have : l ≠ [] := (fun e => c4 (by rw [e]; rfl)); simp [leanB, prT, eqF, nil_noS, *])]; subst c3; rw [lnil c1]; exact bad4e od cd ol cl ob cb w 7 nm _ _ rfl rfl rfl rfl rfl rfl c2 (len0 c4)
  subst c3
  have e1 := lnil c1
  have e4 := lnil c4
  subst e1 e4
  unfold May0
  rw [all_flat (by decide) (by simp [leanB, prT, eqF, nil_noS, *])]
  have := pass7 od cd ol cl ob cb w nm b.length c2
  simpa [withinB] using this
theorem may_kx {od ol ob : Option Addr} {cd cl cb : Nat} {w : World} {neg : Bool} {d : List Nat} {nm : ByteArray} {n : Int} {l : List Tm} {b : List Nat} {k : Int} (k0 : ¬ k = 0) (k1 : ¬ k = 1) (k2 : ¬ k = 2) (k3 : ¬ k = 3) (k4 : ¬ k = 4) (k6 : ¬ k = 6) (k7 : ¬ k = 7) : May0 (.mk k neg d nm n l b) (tmV k neg (.slice od d.length cd) nm n (.slice ol l.length cl) (.slice ob b.length cb)) w := by
  by_cases c0 : neg = true
  · subst c0; unfold May0; rw [all_lean (by simp [leanB, prT, eqF, *])]; exact bad1a od cd ol cl ob cb w k _ nm n _ _ (ne_true k0)
  have c0' : neg = false := by simpa using c0
  subst c0'
  by_cases c1 : (d.length : Int) = 0
  case neg => unfold May0; rw [all_lean (by have : d ≠ [] := (fun e => c1 (by rw [e]; rfl)); simp [leanB, prT, eqF, *])]; exact bad1b od cd ol cl ob cb w k _ nm n _ _ (ne_true k0) (len0 c1)
  by_cases c2 : nm.toList = []
  case neg => unfold May0; rw [all_lean (by simp [leanB, prT, eqF, nil_noS, *])]; rw [lnil c1]; exact bad2b od cd ol cl ob cb w k nm n _ _ (ne_true k0) (ne_true k1) c2
  by_cases c3 : n = 0
  case neg => unfold May0; rw [all_lean (by simp [leanB, prT, eqF, nil_noS, *])]; rw [lnil c1]; exact bad3c od cd ol cl ob cb w k nm n _ _ (ne_true k0) (ne_true k1) (ne_true k2) (ne_true k3) c2 (ne_true c3)
  by_cases c4 : (l.length : Int) = 0
  case neg => unfold May0; rw [all_lean (by have : l ≠ [] := (fun e => c4 (by rw [e]; rfl)); simp [leanB, prT, eqF, nil_noS, *])]; subst c3; rw [lnil c1]; exact bad4e od cd ol cl ob cb w k nm _ _ (ne_true k0) (ne_true k1) (ne_true k2) (ne_true k3) (ne_true k4) (ne_true k6) c2 (len0 c4)
  by_cases c5 : (b.length : Int) = 0
  case neg => unfold May0; rw [all_lean (by have : b ≠ [] := (fun e => c5 (by rw [e]; rfl)); simp [leanB, prT, eqF, nil_noS, *])]; subst c3; rw [lnil c1, lnil c4]; exact bad5g od cd ol cl ob cb w k nm _ (ne_true k0) (ne_true k1) (ne_true k2) (ne_true k3) (ne_true k4) (ne_true k6) (ne_true k7) c2 (len0 c5)
  subst c3
  have e1 := lnil c1
  have e4 := lnil c4
  have e5 := lnil c5
  subst e1 e4 e5
  unfold May0
  by_cases k5 : k = 5
  · subst k5
    rw [all_flat (by decide) (by simp [leanB, prT, eqF, nil_noS, *])]
    have := pass5 od cd ol cl ob cb w nm c2
    simpa [withinB] using this
  · rw [all_lean (by simp [leanB, prT, eqF, nil_noS, *])]
    exact passx od cd ol cl ob cb w k nm c2 (ne_true k0) (ne_true k1) (ne_true k2) (ne_true k3) (ne_true k4) (ne_true k6) (ne_true k7) (eq_false' k0) (eq_false' k1) (eq_false' k2) (eq_false' k3) (eq_false' k4) (eq_false' k5) (eq_false' k6) (eq_false' k7)
end Go.Proofs.YtpdoepjnkgffpaaDoor
namespace Go.Proofs.YtpdoepjnkgffpaaDoor
open Go.ChangeShapes Go.WideShapes Go.ChangeAt Go.RowKit Go.Shelf
set_option linter.unusedSimpArgs false
set_option linter.unusedVariables false
set_option maxRecDepth 2000
theorem all_partsL : ∀ l : List Tm, (partsL l).all fairB = l.all (fun t => (parts t).all fairB)
  | [] => by simp [partsL]
  | t :: l => by simp [partsL, all_partsL l]
set_option maxHeartbeats 4000000 in
set_option maxRecDepth 8000 in
theorem loop4 (od : Option Addr) (cd : Nat) (ol : Option Addr) (cl : Nat) (ob : Option Addr) (cb : Nat) (w : World) (nm : ByteArray) (l : List Tm) (hn : nm.toList = []) (h255 : (l.length : Int) ≤ 255) (htR : TR (Low w) w l ol) (hTa : Hid (Tabs w))
    (hIH : Hid (∀ (t : Tm) (v : Value) (w' : World), t ∈ l → TV (Low w') w' t v → Tabs w' → May0 t v w')) : MayC 4 false od 0 cd nm 0 ol l.length cl ob 0 cb w (l.all (fun t => (parts t).all fairB)) := by
  obtain ⟨kX, hBX, hz0⟩ := bx1 w (.int .i64 4) (.bool false) (.slice od 0 cd) (.string nm) (.int .i64 0) (.slice ol l.length cl) (.slice ob 0 cb) 31
  obtain ⟨R, hR⟩ : ∃ R, l.all (fun t => (parts t).all fairB) = R := ⟨_, rfl⟩
  unfold MayC
  rw [hR]
  have hHR := hid hR
  clear hR
  go_enter Tryd.func38, Tryd.ntmps38
  simp only [List.append_eq, List.cons_append, List.nil_append]
  go_wp2_with fail
  generalize (w.alloc (.cells #[.int .i64 4, .bool false, .slice od 0 cd, .string nm, .int .i64 0, .slice ol l.length cl, .slice ob 0 cb] 31)) = W0 at *
  go_loopg [3] l.length (fun t v3 wr => ∃ i : Nat, t + i = l.length ∧ v3 = .int .i64 (i : Int) ∧ Hid (∀ j x, j < i → l[j]? = some x → (parts x).all fairB = true) ∧ Bx w.heap.size (.int .i64 4) (.bool false) (.slice od 0 cd) (.string nm) (.int .i64 0) (.slice ol l.length cl) (.slice ob 0 cb) wr ∧ Below w.heap.size w wr)
  case atStart => exact ⟨0, by omega, rfl, hid (fun j x hj => by omega), kX, hBX⟩
  case round =>
    obtain ⟨i, hti, rfl, hH, kr, hBr⟩ := hrel
    clear kX hBX
    obtain ⟨x0, x1, x2, x3, x4, x5, x6⟩ := kr.res
    by_cases hil : i = l.length
    · subst hil
      have hRt : R = true := by
        rw [← hHR.out, List.all_eq_true]
        intro x hx
        obtain ⟨j, hj, he⟩ := List.getElem_of_mem hx
        exact hH.out j x hj (by rw [List.getElem?_eq_getElem hj, he])
      subst hRt
      clear hHR
      go_wp2
      go_ret
      exact ⟨rfl, hBr⟩
    · have hil' : i < l.length := by omega
      have hii : ((i : Nat) : Int) < ((l.length : Nat) : Int) := by omega
      obtain ⟨t, ht⟩ : ∃ t, l[i]? = some t := ⟨l[i], by simp [hil']⟩
      obtain ⟨a, k', neg', od', ld', cd', nm', n', ol', ll', cl', ob', lb', cb', rfl, hTv', y0, y1, y2, y3, y4, y5, y6⟩ := htR.get ht hBr
      have hHt := hid ht
      have hI := hIH.out t _ wr (List.mem_of_getElem? ht) hTv' (hTa.out.below hBr)
      have hHI := hid hI
      clear ht hI hTv'
      go_wp2_with fail
      refine hHI.out.mono ?_
      rintro e w2 ⟨rfl, b2⟩
      have hB2 := below_and hBr (Nat.le_refl _) b2
      have k2 := kr.below b2
      obtain ⟨bb, hbb⟩ : ∃ bb, (parts t).all fairB = bb := ⟨_, rfl⟩
      rw [hbb]
      have hHb := hid hbb
      clear hbb hHI x0 x1 x2 x3 x4 x5 x6 y0 y1 y2 y3 y4 y5 y6 b2 hBr kr
      cases bb with
      | false =>
        have hRf : R = false := by
          rw [← hHR.out]
          cases hq : l.all (fun t => (parts t).all fairB) with
          | false => rfl
          | true =>
            rw [List.all_eq_true] at hq
            have := hq t (List.mem_of_getElem? hHt.out)
            rw [hHb.out] at this; simp at this
        subst hRf
        clear hHR
        go_wp2
        go_ret
        exact ⟨rfl, hB2⟩
      | true =>
        go_wp2
        go_roundg (l.length - (i + 1))
        case measure => omega
        case rel =>
          refine ⟨i + 1, by omega, by go_num, hid (fun j x hj hx => ?_), k2, hB2⟩
          rcases Nat.lt_or_ge j i with h | h
          · exact hH.out j x h hx
          · have : j = i := by omega
            subst this
            rw [hHt.out] at hx
            injection hx with hx; subst hx
            exact hHb.out
set_option maxHeartbeats 4000000 in
set_option maxRecDepth 8000 in
theorem loop6 (od : Option Addr) (cd : Nat) (ol : Option Addr) (cl : Nat) (ob : Option Addr) (cb : Nat) (w : World) (nm : ByteArray) (l : List Tm) (hn : nm.toList = []) (h2 : ((l.length : Int) != 2) = false) (h255 : (l.length : Int) ≤ 255) (htR : TR (Low w) w l ol) (hTa : Hid (Tabs w))
    (hIH : Hid (∀ (t : Tm) (v : Value) (w' : World), t ∈ l → TV (Low w') w' t v → Tabs w' → May0 t v w')) : MayC 6 false od 0 cd nm 0 ol l.length cl ob 0 cb w (l.all (fun t => (parts t).all fairB)) := by
  obtain ⟨kX, hBX, hz0⟩ := bx1 w (.int .i64 6) (.bool false) (.slice od 0 cd) (.string nm) (.int .i64 0) (.slice ol l.length cl) (.slice ob 0 cb) 31
  obtain ⟨R, hR⟩ : ∃ R, l.all (fun t => (parts t).all fairB) = R := ⟨_, rfl⟩
  unfold MayC
  rw [hR]
  have hHR := hid hR
  clear hR
  go_enter Tryd.func38, Tryd.ntmps38
  simp only [List.append_eq, List.cons_append, List.nil_append]
  go_wp2_with fail
  generalize (w.alloc (.cells #[.int .i64 6, .bool false, .slice od 0 cd, .string nm, .int .i64 0, .slice ol l.length cl, .slice ob 0 cb] 31)) = W0 at *
  go_loopg [3] l.length (fun t v3 wr => ∃ i : Nat, t + i = l.length ∧ v3 = .int .i64 (i : Int) ∧ Hid (∀ j x, j < i → l[j]? = some x → (parts x).all fairB = true) ∧ Bx w.heap.size (.int .i64 6) (.bool false) (.slice od 0 cd) (.string nm) (.int .i64 0) (.slice ol l.length cl) (.slice ob 0 cb) wr ∧ Below w.heap.size w wr)
  case atStart => exact ⟨0, by omega, rfl, hid (fun j x hj => by omega), kX, hBX⟩
  case round =>
    obtain ⟨i, hti, rfl, hH, kr, hBr⟩ := hrel
    clear kX hBX
    obtain ⟨x0, x1, x2, x3, x4, x5, x6⟩ := kr.res
    by_cases hil : i = l.length
    · subst hil
      have hRt : R = true := by
        rw [← hHR.out, List.all_eq_true]
        intro x hx
        obtain ⟨j, hj, he⟩ := List.getElem_of_mem hx
        exact hH.out j x hj (by rw [List.getElem?_eq_getElem hj, he])
      subst hRt
      clear hHR
      go_wp2
      go_ret
      exact ⟨rfl, hBr⟩
    · have hil' : i < l.length := by omega
      have hii : ((i : Nat) : Int) < ((l.length : Nat) : Int) := by omega
      obtain ⟨t, ht⟩ : ∃ t, l[i]? = some t := ⟨l[i], by simp [hil']⟩
      obtain ⟨a, k', neg', od', ld', cd', nm', n', ol', ll', cl', ob', lb', cb', rfl, hTv', y0, y1, y2, y3, y4, y5, y6⟩ := htR.get ht hBr
      have hHt := hid ht
      have hI := hIH.out t _ wr (List.mem_of_getElem? ht) hTv' (hTa.out.below hBr)
      have hHI := hid hI
      clear ht hI hTv'
      go_wp2_with fail
      refine hHI.out.mono ?_
      rintro e w2 ⟨rfl, b2⟩
      have hB2 := below_and hBr (Nat.le_refl _) b2
      have k2 := kr.below b2
      obtain ⟨bb, hbb⟩ : ∃ bb, (parts t).all fairB = bb := ⟨_, rfl⟩
      rw [hbb]
      have hHb := hid hbb
      clear hbb hHI x0 x1 x2 x3 x4 x5 x6 y0 y1 y2 y3 y4 y5 y6 b2 hBr kr
      cases bb with
      | false =>
        have hRf : R = false := by
          rw [← hHR.out]
          cases hq : l.all (fun t => (parts t).all fairB) with
          | false => rfl
          | true =>
            rw [List.all_eq_true] at hq
            have := hq t (List.mem_of_getElem? hHt.out)
            rw [hHb.out] at this; simp at this
        subst hRf
        clear hHR
        go_wp2
        go_ret
        exact ⟨rfl, hB2⟩
      | true =>
        go_wp2
        go_roundg (l.length - (i + 1))
        case measure => omega
        case rel =>
          refine ⟨i + 1, by omega, by go_num, hid (fun j x hj hx => ?_), k2, hB2⟩
          rcases Nat.lt_or_ge j i with h | h
          · exact hH.out j x h hx
          · have : j = i := by omega
            subst this
            rw [hHt.out] at hx
            injection hx with hx; subst hx
            exact hHb.out
set_option maxHeartbeats 4000000 in
set_option maxRecDepth 8000 in
theorem long4 (od : Option Addr) (cd : Nat) (ol : Option Addr) (ll cl : Nat) (ob : Option Addr) (cb : Nat) (w : World) (nm : ByteArray) (hn : nm.toList = []) (h255 : (255 : Int) < (ll : Int)) : MayC 4 false od 0 cd nm 0 ol ll cl ob 0 cb w false := by
  go_enter Tryd.func38, Tryd.ntmps38
  simp only [List.append_eq, List.cons_append, List.nil_append]
  go_wp2
  go_ret
  exact ⟨rfl, (Below.refl _ w).alloc (Nat.le_refl _) _⟩
set_option maxHeartbeats 4000000 in
set_option maxRecDepth 8000 in
theorem long6 (od : Option Addr) (cd : Nat) (ol : Option Addr) (ll cl : Nat) (ob : Option Addr) (cb : Nat) (w : World) (nm : ByteArray) (hn : nm.toList = []) (h2 : ((ll : Int) != 2) = true) : MayC 6 false od 0 cd nm 0 ol ll cl ob 0 cb w false := by
  go_enter Tryd.func38, Tryd.ntmps38
  simp only [List.append_eq, List.cons_append, List.nil_append]
  go_wp2
  go_ret
  exact ⟨rfl, (Below.refl _ w).alloc (Nat.le_refl _) _⟩
end Go.Proofs.YtpdoepjnkgffpaaDoor
namespace Go.Proofs.YtpdoepjnkgffpaaDoor
open Go.ChangeShapes Go.WideShapes Go.ChangeAt Go.RowKit Go.Shelf
set_option linter.unusedSimpArgs false
set_option linter.unusedVariables false
set_option maxRecDepth 2000
theorem rmay_w : ∀ (N : Nat) (T : Tm) (v : Value) (w : World), tsz T ≤ N → (∀ p ∈ parts T, p.ok1) → TV (Low w) w T v → Tabs w → May0 T v w := by
  intro N
  induction N with
  | zero => intro T v w h; cases T; simp only [tsz] at h; omega
  | succ N ih =>
  intro T v w hN hok hT hTa
  have hok1 := hok T (by rw [parts_eq]; simp)
  cases T with | mk k neg d nm n l b =>
  have hIHg : k = 4 ∨ k = 6 → Hid (∀ (t : Tm) (v : Value) (w' : World), t ∈ l → TV (Low w') w' t v → Tabs w' → May0 t v w') := fun hk => hid (fun t v w' ht hV hTa' => by
    obtain ⟨i, hi⟩ := List.getElem?_of_mem ht
    refine ih t v w' (by have := tsz_mem hi; simp only [tsz] at hN; omega) (fun p hp => hok p ?_) hV hTa'
    have : parts (.mk k neg d nm n l b) = .mk k neg d nm n l b :: partsL l := by simp [parts, hk]
    rw [this]
    exact List.mem_cons_of_mem _ (mem_partsL hi hp))
  unfold TV at hT
  obtain ⟨od, cd, ol, cl, ob, cb, rfl, hL, hcd, hm, _, _, hcl, hTR⟩ := hT
  by_cases k0 : k = 0
  · subst k0; exact may_k0 hok1 hcd hL
  by_cases k1 : k = 1
  · subst k1; exact may_k1 hok1 hTa
  by_cases k2 : k = 2
  · subst k2; exact may_k2
  by_cases k3 : k = 3
  · subst k3; exact may_k3
  by_cases k7 : k = 7
  · subst k7; exact may_k7
  by_cases k4 : k = 4
  · subst k4
    by_cases c0 : neg = true
    · subst c0; unfold May0; rw [all_lean (by simp [leanB, prT, eqF])]; exact bad1a od cd ol cl ob cb w 4 _ nm n _ _ rfl
    have c0' : neg = false := by simpa using c0
    subst c0'
    by_cases c1 : (d.length : Int) = 0
    case neg => unfold May0; rw [all_lean (by have : d ≠ [] := (fun e => c1 (by rw [e]; rfl)); simp [leanB, prT, eqF, *])]; exact bad1b od cd ol cl ob cb w 4 _ nm n _ _ rfl (len0 c1)
    by_cases c2 : nm.toList = []
    case neg => unfold May0; rw [all_lean (by simp [leanB, prT, eqF, nil_noS, *])]; rw [lnil c1]; exact bad2b od cd ol cl ob cb w 4 nm n _ _ rfl rfl c2
    by_cases c3 : n = 0
    case neg => unfold May0; rw [all_lean (by simp [leanB, prT, eqF, nil_noS, *])]; rw [lnil c1]; exact bad3c od cd ol cl ob cb w 4 nm n _ _ rfl rfl rfl rfl c2 (ne_true c3)
    by_cases c5 : (b.length : Int) = 0
    case neg => unfold May0; rw [all_lean (by have : b ≠ [] := (fun e => c5 (by rw [e]; rfl)); simp [leanB, prT, eqF, nil_noS, *])]; subst c3; rw [lnil c1]; exact bad5e od cd ol cl ob cb w nm _ _ c2 (len0 c5)
    subst c3
    have e1 := lnil c1
    have e5 := lnil c5
    subst e1 e5
    have hle : leanB (.mk 4 false [] nm 0 l []) = true := by simp [leanB, prT, eqF, nil_noS, *]
    have hpp : (parts (.mk 4 false [] nm 0 l [])).all fairB = (withinB (.mk 4 false [] nm 0 l []) && l.all (fun t => (parts t).all fairB)) := by
      rw [parts_eq]
      simp only [List.all_cons, fairB, hle, Bool.true_and, Tm.kids]
      rw [← all_partsL]
      rfl
    unfold May0
    rw [hpp]
    by_cases h255 : (l.length : Int) ≤ 255
    · have hw : withinB (.mk 4 false [] nm 0 l []) = true := by simp [withinB]; omega
      rw [hw, Bool.true_and]
      exact loop4 od cd ol cl ob cb w nm l c2 h255 hTR (hid hTa) (hIHg (.inl rfl))
    · have hw : withinB (.mk 4 false [] nm 0 l []) = false := by simp [withinB]; omega
      rw [hw, Bool.false_and]
      exact long4 od cd ol l.length cl ob cb w nm c2 (by omega)
  by_cases k6 : k = 6
  · subst k6
    by_cases c0 : neg = true
    · subst c0; unfold May0; rw [all_lean (by simp [leanB, prT, eqF])]; exact bad1a od cd ol cl ob cb w 6 _ nm n _ _ rfl
    have c0' : neg = false := by simpa using c0
    subst c0'
    by_cases c1 : (d.length : Int) = 0
    case neg => unfold May0; rw [all_lean (by have : d ≠ [] := (fun e => c1 (by rw [e]; rfl)); simp [leanB, prT, eqF, *])]; exact bad1b od cd ol cl ob cb w 6 _ nm n _ _ rfl (len0 c1)
    by_cases c2 : nm.toList = []
    case neg => unfold May0; rw [all_lean (by simp [leanB, prT, eqF, nil_noS, *])]; rw [lnil c1]; exact bad2b od cd ol cl ob cb w 6 nm n _ _ rfl rfl c2
    by_cases c3 : n = 0
    case neg => unfold May0; rw [all_lean (by simp [leanB, prT, eqF, nil_noS, *])]; rw [lnil c1]; exact bad3c od cd ol cl ob cb w 6 nm n _ _ rfl rfl rfl rfl c2 (ne_true c3)
    by_cases c5 : (b.length : Int) = 0
    case neg => unfold May0; rw [all_lean (by have : b ≠ [] := (fun e => c5 (by rw [e]; rfl)); simp [leanB, prT, eqF, nil_noS, *])]; subst c3; rw [lnil c1]; exact bad5f od cd ol cl ob cb w nm _ _ c2 (len0 c5)
    subst c3
    have e1 := lnil c1
    have e5 := lnil c5
    subst e1 e5
    have hle : leanB (.mk 6 false [] nm 0 l []) = true := by simp [leanB, prT, eqF, nil_noS, *]
    have hpp : (parts (.mk 6 false [] nm 0 l [])).all fairB = (withinB (.mk 6 false [] nm 0 l []) && l.all (fun t => (parts t).all fairB)) := by
      rw [parts_eq]
      simp only [List.all_cons, fairB, hle, Bool.true_and, Tm.kids]
      rw [← all_partsL]
      rfl
    unfold May0
    rw [hpp]
    by_cases h2 : (l.length : Int) = 2
    · have hw : withinB (.mk 6 false [] nm 0 l []) = true := by simp [withinB]; omega
      rw [hw, Bool.true_and]
      exact loop6 od cd ol cl ob cb w nm l c2 (by simp; omega) (by omega) hTR (hid hTa) (hIHg (.inr rfl))
    · have hw : withinB (.mk 6 false [] nm 0 l []) = false := by simp [withinB]; omega
      rw [hw, Bool.false_and]
      exact long6 od cd ol l.length cl ob cb w nm c2 (by simp; omega)
  exact may_kx k0 k1 k2 k3 k4 k6 k7
set_option maxHeartbeats 1000000 in
theorem rMay_w (T : Tm) (v : Value) (w : World) (hok : ∀ p ∈ parts T, p.ok1) (hT : TV (Low w) w T v) (hTa : Tabs w) :
    Calls Tryd.prog 19 #[v] w fun e w' => e = .returned (.bool (mayB T)) ∧ Below w.heap.size w w' := by
  obtain ⟨k, neg, od, ld, cd, nm, n, ol, ll, cl, ob, lb, cb, rfl⟩ := hT.form
  obtain ⟨kX, hBX, hz0⟩ := bx1 w (.int .i64 k) (.bool neg) (.slice od ld cd) (.string nm) (.int .i64 n) (.slice ol ll cl) (.slice ob lb cb) 31
  have hTb : ∀ w', Below w.heap.size w w' → TV (Low w') w' T (tmV k neg (.slice od ld cd) nm n (.slice ol ll cl) (.slice ob lb cb)) := fun w' hb => tv_below hT hb
  obtain ⟨R, hR⟩ : ∃ R, mayB T = R := ⟨_, rfl⟩
  rw [hR]
  unfold mayB at hR
  have hHR := hid hR
  clear hR hT
  go_enter Tryd.func19, Tryd.ntmps19
  go_wp2_with fail
  generalize (w.alloc (.cells #[.int .i64 k, .bool neg, .slice od ld cd, .string nm, .int .i64 n, .slice ol ll cl, .slice ob lb cb] 31)) = w1 at *
  refine (rTree_w (tsz T) T _ _ (Nat.le_refl _) hok (hTb _ hBX)).mono ?_
  rintro e w2 ⟨rfl, b2⟩
  have hB2 := below_and hBX (Nat.le_refl _) b2
  obtain ⟨x0, x1, x2, x3, x4, x5, x6⟩ := (kX.below b2).res
  by_cases ht : treeN T ≤ 65536
  · have ht' : ((treeN T : Nat) : Int) ≤ 65536 := by omega
    have hRa : (parts T).all fairB = R := by rw [← hHR.out, decide_eq_true ht, Bool.true_and]
    have hHa := hid hRa
    clear ht hHR hRa
    go_wp2_with fail
    refine (rmay_w (tsz T) T _ _ (Nat.le_refl _) hok (hTb _ hB2) (hTa.below hB2)).mono ?_
    rintro e w3 ⟨rfl, b3⟩
    rw [hHa.out]
    have hB3 := below_and hB2 (Nat.le_refl _) b3
    go_wp2
    go_ret
    exact ⟨rfl, hB3⟩
  · have ht' : ¬ (((treeN T : Nat) : Int) ≤ 65536) := by omega
    have hRf : R = false := by rw [← hHR.out, decide_eq_false ht, Bool.false_and]
    subst hRf
    clear hHR ht
    go_wp2
    go_ret
    exact ⟨rfl, hB2⟩
end Go.Proofs.YtpdoepjnkgffpaaDoor
