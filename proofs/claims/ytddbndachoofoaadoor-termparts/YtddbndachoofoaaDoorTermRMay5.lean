/- may of the reference, by kinds. -/
import Derived.Test.YtddbndachoofoaaDoorTermRMay4
namespace Go.Proofs.YtddbndachoofoaaDoor
open Go.ChangeShapes Go.WideShapes Go.ChangeAt Go.RowKit Go.Shelf
set_option linter.unusedSimpArgs false
set_option linter.unusedVariables false
theorem nil_noS : noS.toList = [] := by decide +kernel
theorem all_lean {T : Tm} (h : leanB T = false) : (parts T).all fairB = false := by
  rw [parts_eq]
  simp [fairB, h]
theorem all_flat {k : Int} {neg : Bool} {d : List Nat} {nm : ByteArray} {n : Int} {l : List Tm} {b : List Nat} (hk : ¬ (k = 4 ∨ k = 6)) (h : leanB (.mk k neg d nm n l b) = true) : (parts (.mk k neg d nm n l b)).all fairB = withinB (.mk k neg d nm n l b) := by
  have hp : parts (.mk k neg d nm n l b) = [.mk k neg d nm n l b] := by simp [parts, hk]
  rw [hp]
  simp [fairB, h]
theorem len0 {α : Type} {l : List α} (h : ¬ (l.length : Int) = 0) : (0 : Int) < (l.length : Int) := by omega
theorem ne_true {k : Int} {c : Int} (h : ¬ k = c) : (k != c) = true := by simpa using h
theorem eq_false' {k : Int} {c : Int} (h : ¬ k = c) : (k == c) = false := by simpa using h
abbrev May0 (T : Tm) (v : Value) (w : World) : Prop := Calls Tryd.prog 52 #[v] w fun e w' => e = .returned (.bool ((parts T).all fairB)) ∧ Below w.heap.size w w'
theorem lnil {α : Type} {l : List α} (h : (l.length : Int) = 0) : l = [] := List.eq_nil_of_length_eq_zero (by omega)
theorem may_k0 {od ol ob : Option Addr} {cd cl cb : Nat} {w : World} {neg : Bool} {d : List Nat} {nm : ByteArray} {n : Int} {l : List Tm} {b : List Nat} (hok : (Tm.mk 0 neg d nm n l b).ok1) (hcd : d.length ≤ cd) (hL : Ls (Low w) od (lim d) w) : May0 (.mk 0 neg d nm n l b) (tmV 0 neg (.slice od d.length cd) nm n (.slice ol l.length cl) (.slice ob b.length cb)) w := by
  obtain ⟨hd, hs, _, _, hm⟩ : d.length ≤ 1000000 ∧ nm.size ≤ 1000000 ∧ l.length ≤ 1000000 ∧ b.length ≤ 1000000 ∧ Lm 4294967296 d := hok
  by_cases c2 : nm.toList = []
  case neg => unfold May0; rw [all_lean (by simp [leanB, prT, eqF, nil_noS, *])]; exact bad2a od cd ol cl ob cb w neg _ nm n _ _ c2
  by_cases c3 : n = 0
  case neg => unfold May0; rw [all_lean (by simp [leanB, prT, eqF, nil_noS, *])]; exact bad3a od cd ol cl ob cb w neg _ nm n _ _ c2 (ne_true c3)
  by_cases c4 : (l.length : Int) = 0
  case neg => unfold May0; rw [all_lean (by have : l ≠ [] := (fun e => c4 (by rw [e]; rfl)); simp [leanB, prT, eqF, nil_noS, *])]; subst c3; exact bad4a od cd ol cl ob cb w neg _ nm _ _ c2 (len0 c4)
  by_cases c5 : (b.length : Int) = 0
  case neg => unfold May0; rw [all_lean (by have : b ≠ [] := (fun e => c5 (by rw [e]; rfl)); simp [leanB, prT, eqF, nil_noS, *])]; subst c3; rw [lnil c4]; exact bad5a od cd ol cl ob cb w neg _ nm _ c2 (len0 c5)
  subst c3
  have e4 := lnil c4
  have e5 := lnil c5
  subst e4 e5
  unfold May0
  rw [all_flat (by decide) (by simp [leanB, prT, eqF, nil_noS, *])]
  have := pass0 od cd ol cl ob cb w neg d nm c2 hd hm hcd hL
  simpa [withinB] using this
theorem may_k1 {od ol ob : Option Addr} {cd cl cb : Nat} {w : World} {neg : Bool} {d : List Nat} {nm : ByteArray} {n : Int} {l : List Tm} {b : List Nat} (hok : (Tm.mk 1 neg d nm n l b).ok1) (hTa : Tabs w) : May0 (.mk 1 neg d nm n l b) (tmV 1 neg (.slice od d.length cd) nm n (.slice ol l.length cl) (.slice ob b.length cb)) w := by
  obtain ⟨hd, hs, _, _, hm⟩ : d.length ≤ 1000000 ∧ nm.size ≤ 1000000 ∧ l.length ≤ 1000000 ∧ b.length ≤ 1000000 ∧ Lm 4294967296 d := hok
  by_cases c0 : neg = true
  · subst c0; unfold May0; rw [all_lean (by simp [leanB, prT, eqF])]; exact bad1a od cd ol cl ob cb w 1 _ nm n _ _ rfl
  have c0' : neg = false := by simpa using c0
  subst c0'
  by_cases c1 : (d.length : Int) = 0
  case neg => unfold May0; rw [all_lean (by have : d ≠ [] := (fun e => c1 (by rw [e]; rfl)); simp [leanB, prT, eqF, *])]; exact bad1b od cd ol cl ob cb w 1 _ nm n _ _ rfl (len0 c1)
  by_cases c3 : n = 0
  case neg => unfold May0; rw [all_lean (by simp [leanB, prT, eqF, *])]; rw [lnil c1]; exact bad3b od cd ol cl ob cb w nm n _ _ (ne_true c3)
  by_cases c4 : (l.length : Int) = 0
  case neg => unfold May0; rw [all_lean (by have : l ≠ [] := (fun e => c4 (by rw [e]; rfl)); simp [leanB, prT, eqF, *])]; subst c3; rw [lnil c1]; exact bad4b od cd ol cl ob cb w nm _ _ (len0 c4)
  by_cases c5 : (b.length : Int) = 0
  case neg => unfold May0; rw [all_lean (by have : b ≠ [] := (fun e => c5 (by rw [e]; rfl)); simp [leanB, prT, eqF, *])]; subst c3; rw [lnil c1, lnil c4]; exact bad5b od cd ol cl ob cb w nm _ (len0 c5)
  subst c3
  have e1 := lnil c1
  have e4 := lnil c4
  have e5 := lnil c5
  subst e1 e4 e5
  unfold May0
  rw [all_flat (by decide) (by simp [leanB, prT, eqF])]
  have := pass1 od cd ol cl ob cb w nm hs hTa
  simpa [withinB] using this
theorem may_k2 {od ol ob : Option Addr} {cd cl cb : Nat} {w : World} {neg : Bool} {d : List Nat} {nm : ByteArray} {n : Int} {l : List Tm} {b : List Nat} : May0 (.mk 2 neg d nm n l b) (tmV 2 neg (.slice od d.length cd) nm n (.slice ol l.length cl) (.slice ob b.length cb)) w := by
  by_cases c0 : neg = true
  · subst c0; unfold May0; rw [all_lean (by simp [leanB, prT, eqF])]; exact bad1a od cd ol cl ob cb w 2 _ nm n _ _ rfl
  have c0' : neg = false := by simpa using c0
  subst c0'
  by_cases c1 : (d.length : Int) = 0
  case neg => unfold May0; rw [all_lean (by have : d ≠ [] := (fun e => c1 (by rw [e]; rfl)); simp [leanB, prT, eqF, *])]; exact bad1b od cd ol cl ob cb w 2 _ nm n _ _ rfl (len0 c1)
  by_cases c2 : nm.toList = []
  case neg => unfold May0; rw [all_lean (by simp [leanB, prT, eqF, nil_noS, *])]; rw [lnil c1]; exact bad2b od cd ol cl ob cb w 2 nm n _ _ rfl rfl c2
  by_cases c4 : (l.length : Int) = 0
  case neg => unfold May0; rw [all_lean (by have : l ≠ [] := (fun e => c4 (by rw [e]; rfl)); simp [leanB, prT, eqF, nil_noS, *])]; rw [lnil c1]; exact bad4c od cd ol cl ob cb w nm n _ _ c2 (len0 c4)
  by_cases c5 : (b.length : Int) = 0
  case neg => unfold May0; rw [all_lean (by have : b ≠ [] := (fun e => c5 (by rw [e]; rfl)); simp [leanB, prT, eqF, nil_noS, *])]; rw [lnil c1, lnil c4]; exact bad5c od cd ol cl ob cb w nm n _ c2 (len0 c5)
  have e1 := lnil c1
  have e4 := lnil c4
  have e5 := lnil c5
  subst e1 e4 e5
  unfold May0
  rw [all_flat (by decide) (by simp [leanB, prT, eqF, nil_noS, *])]
  have := pass2 od cd ol cl ob cb w nm n c2
  simpa [withinB] using this
theorem may_k3 {od ol ob : Option Addr} {cd cl cb : Nat} {w : World} {neg : Bool} {d : List Nat} {nm : ByteArray} {n : Int} {l : List Tm} {b : List Nat} : May0 (.mk 3 neg d nm n l b) (tmV 3 neg (.slice od d.length cd) nm n (.slice ol l.length cl) (.slice ob b.length cb)) w := by
  by_cases c0 : neg = true
  · subst c0; unfold May0; rw [all_lean (by simp [leanB, prT, eqF])]; exact bad1a od cd ol cl ob cb w 3 _ nm n _ _ rfl
  have c0' : neg = false := by simpa using c0
  subst c0'
  by_cases c1 : (d.length : Int) = 0
  case neg => unfold May0; rw [all_lean (by have : d ≠ [] := (fun e => c1 (by rw [e]; rfl)); simp [leanB, prT, eqF, *])]; exact bad1b od cd ol cl ob cb w 3 _ nm n _ _ rfl (len0 c1)
  by_cases c2 : nm.toList = []
  case neg => unfold May0; rw [all_lean (by simp [leanB, prT, eqF, nil_noS, *])]; rw [lnil c1]; exact bad2b od cd ol cl ob cb w 3 nm n _ _ rfl rfl c2
  by_cases c4 : (l.length : Int) = 0
  case neg => unfold May0; rw [all_lean (by have : l ≠ [] := (fun e => c4 (by rw [e]; rfl)); simp [leanB, prT, eqF, nil_noS, *])]; rw [lnil c1]; exact bad4d od cd ol cl ob cb w nm n _ _ c2 (len0 c4)
  by_cases c5 : (b.length : Int) = 0
  case neg => unfold May0; rw [all_lean (by have : b ≠ [] := (fun e => c5 (by rw [e]; rfl)); simp [leanB, prT, eqF, nil_noS, *])]; rw [lnil c1, lnil c4]; exact bad5d od cd ol cl ob cb w nm n _ c2 (len0 c5)
  have e1 := lnil c1
  have e4 := lnil c4
  have e5 := lnil c5
  subst e1 e4 e5
  unfold May0
  rw [all_flat (by decide) (by simp [leanB, prT, eqF, nil_noS, *])]
  have := pass3 od cd ol cl ob cb w nm n c2
  simpa [withinB] using this
theorem may_k7 {od ol ob : Option Addr} {cd cl cb : Nat} {w : World} {neg : Bool} {d : List Nat} {nm : ByteArray} {n : Int} {l : List Tm} {b : List Nat} : May0 (.mk 7 neg d nm n l b) (tmV 7 neg (.slice od d.length cd) nm n (.slice ol l.length cl) (.slice ob b.length cb)) w := by
  by_cases c0 : neg = true
  · subst c0; unfold May0; rw [all_lean (by simp [leanB, prT, eqF])]; exact bad1a od cd ol cl ob cb w 7 _ nm n _ _ rfl
  have c0' : neg = false := by simpa using c0
  subst c0'
  by_cases c1 : (d.length : Int) = 0
  case neg => unfold May0; rw [all_lean (by have : d ≠ [] := (fun e => c1 (by rw [e]; rfl)); simp [leanB, prT, eqF, *])]; exact bad1b od cd ol cl ob cb w 7 _ nm n _ _ rfl (len0 c1)
  by_cases c2 : nm.toList = []
  case neg => unfold May0; rw [all_lean (by simp [leanB, prT, eqF, nil_noS, *])]; rw [lnil c1]; exact bad2b od cd ol cl ob cb w 7 nm n _ _ rfl rfl c2
  by_cases c3 : n = 0
  case neg => unfold May0; rw [all_lean (by simp [leanB, prT, eqF, nil_noS, *])]; rw [lnil c1]; exact bad3c od cd ol cl ob cb w 7 nm n _ _ rfl rfl rfl rfl c2 (ne_true c3)
  by_cases c4 : (l.length : Int) = 0
  case neg => unfold May0; rw [all_lean (by have : l ≠ [] := (fun e => c4 (by rw [e]; rfl)); simp [leanB, prT, eqF, nil_noS, *])]; subst c3; rw [lnil c1]; exact bad4e od cd ol cl ob cb w 7 nm _ _ rfl rfl rfl rfl rfl rfl c2 (len0 c4)
  subst c3
  have e1 := lnil c1
  have e4 := lnil c4
  subst e1 e4
  unfold May0
  rw [all_flat (by decide) (by simp [leanB, prT, eqF, nil_noS, *])]
  have := pass7 od cd ol cl ob cb w nm b.length c2
  simpa [withinB] using this
theorem may_kx {od ol ob : Option Addr} {cd cl cb : Nat} {w : World} {neg : Bool} {d : List Nat} {nm : ByteArray} {n : Int} {l : List Tm} {b : List Nat} {k : Int} (k0 : ¬ k = 0) (k1 : ¬ k = 1) (k2 : ¬ k = 2) (k3 : ¬ k = 3) (k4 : ¬ k = 4) (k6 : ¬ k = 6) (k7 : ¬ k = 7) : May0 (.mk k neg d nm n l b) (tmV k neg (.slice od d.length cd) nm n (.slice ol l.length cl) (.slice ob b.length cb)) w := by
  by_cases c0 : neg = true
  · subst c0; unfold May0; rw [all_lean (by simp [leanB, prT, eqF, *])]; exact bad1a od cd ol cl ob cb w k _ nm n _ _ (ne_true k0)
  have c0' : neg = false := by simpa using c0
  subst c0'
  by_cases c1 : (d.length : Int) = 0
  case neg => unfold May0; rw [all_lean (by have : d ≠ [] := (fun e => c1 (by rw [e]; rfl)); simp [leanB, prT, eqF, *])]; exact bad1b od cd ol cl ob cb w k _ nm n _ _ (ne_true k0) (len0 c1)
  by_cases c2 : nm.toList = []
  case neg => unfold May0; rw [all_lean (by simp [leanB, prT, eqF, nil_noS, *])]; rw [lnil c1]; exact bad2b od cd ol cl ob cb w k nm n _ _ (ne_true k0) (ne_true k1) c2
  by_cases c3 : n = 0
  case neg => unfold May0; rw [all_lean (by simp [leanB, prT, eqF, nil_noS, *])]; rw [lnil c1]; exact bad3c od cd ol cl ob cb w k nm n _ _ (ne_true k0) (ne_true k1) (ne_true k2) (ne_true k3) c2 (ne_true c3)
  by_cases c4 : (l.length : Int) = 0
  case neg => unfold May0; rw [all_lean (by have : l ≠ [] := (fun e => c4 (by rw [e]; rfl)); simp [leanB, prT, eqF, nil_noS, *])]; subst c3; rw [lnil c1]; exact bad4e od cd ol cl ob cb w k nm _ _ (ne_true k0) (ne_true k1) (ne_true k2) (ne_true k3) (ne_true k4) (ne_true k6) c2 (len0 c4)
  by_cases c5 : (b.length : Int) = 0
  case neg => unfold May0; rw [all_lean (by have : b ≠ [] := (fun e => c5 (by rw [e]; rfl)); simp [leanB, prT, eqF, nil_noS, *])]; subst c3; rw [lnil c1, lnil c4]; exact bad5g od cd ol cl ob cb w k nm _ (ne_true k0) (ne_true k1) (ne_true k2) (ne_true k3) (ne_true k4) (ne_true k6) (ne_true k7) c2 (len0 c5)
  subst c3
  have e1 := lnil c1
  have e4 := lnil c4
  have e5 := lnil c5
  subst e1 e4 e5
  unfold May0
  by_cases k5 : k = 5
  · subst k5
    rw [all_flat (by decide) (by simp [leanB, prT, eqF, nil_noS, *])]
    have := pass5 od cd ol cl ob cb w nm c2
    simpa [withinB] using this
  · rw [all_lean (by simp [leanB, prT, eqF, nil_noS, *])]
    exact passx od cd ol cl ob cb w k nm c2 (ne_true k0) (ne_true k1) (ne_true k2) (ne_true k3) (ne_true k4) (ne_true k6) (ne_true k7) (eq_false' k0) (eq_false' k1) (eq_false' k2) (eq_false' k3) (eq_false' k4) (eq_false' k5) (eq_false' k6) (eq_false' k7)
end Go.Proofs.YtddbndachoofoaaDoor
