/- may, May of the reference. -/
import Derived.Test.YtddbndachoofoaaDoorTermRMay6
namespace Go.Proofs.YtddbndachoofoaaDoor
open Go.ChangeShapes Go.WideShapes Go.ChangeAt Go.RowKit Go.Shelf
set_option linter.unusedSimpArgs false
set_option linter.unusedVariables false
theorem rmay_w : ∀ (N : Nat) (T : Tm) (v : Value) (w : World), tsz T ≤ N → (∀ p ∈ parts T, p.ok1) → TV (Low w) w T v → Tabs w → May0 T v w := by
  intro N
  induction N with
  | zero => intro T v w h; cases T; simp only [tsz] at h; omega
  | succ N ih =>
  intro T v w hN hok hT hTa
  have hok1 := hok T (by rw [parts_eq]; simp)
  cases T with | mk k neg d nm n l b =>
  have hIHg : k = 4 ∨ k = 6 → Hid (∀ (t : Tm) (v : Value) (w' : World), t ∈ l → TV (Low w') w' t v → Tabs w' → May0 t v w') := fun hk => hid (fun t v w' ht hV hTa' => by
    obtain ⟨i, hi⟩ := List.getElem?_of_mem ht
    refine ih t v w' (by have := tsz_mem hi; simp only [tsz] at hN; omega) (fun p hp => hok p ?_) hV hTa'
    have : parts (.mk k neg d nm n l b) = .mk k neg d nm n l b :: partsL l := by simp [parts, hk]
    rw [this]
    exact List.mem_cons_of_mem _ (mem_partsL hi hp))
  unfold TV at hT
  obtain ⟨od, cd, ol, cl, ob, cb, rfl, hL, hcd, hm, _, _, hcl, hTR⟩ := hT
  by_cases k0 : k = 0
  · subst k0; exact may_k0 hok1 hcd hL
  by_cases k1 : k = 1
  · subst k1; exact may_k1 hok1 hTa
  by_cases k2 : k = 2
  · subst k2; exact may_k2
  by_cases k3 : k = 3
  · subst k3; exact may_k3
  by_cases k7 : k = 7
  · subst k7; exact may_k7
  by_cases k4 : k = 4
  · subst k4
    by_cases c0 : neg = true
    · subst c0; unfold May0; rw [all_lean (by simp [leanB, prT, eqF])]; exact bad1a od cd ol cl ob cb w 4 _ nm n _ _ rfl
    have c0' : neg = false := by simpa using c0
    subst c0'
    by_cases c1 : (d.length : Int) = 0
    case neg => unfold May0; rw [all_lean (by have : d ≠ [] := (fun e => c1 (by rw [e]; rfl)); simp [leanB, prT, eqF, *])]; exact bad1b od cd ol cl ob cb w 4 _ nm n _ _ rfl (len0 c1)
    by_cases c2 : nm.toList = []
    case neg => unfold May0; rw [all_lean (by simp [leanB, prT, eqF, nil_noS, *])]; rw [lnil c1]; exact bad2b od cd ol cl ob cb w 4 nm n _ _ rfl rfl c2
    by_cases c3 : n = 0
    case neg => unfold May0; rw [all_lean (by simp [leanB, prT, eqF, nil_noS, *])]; rw [lnil c1]; exact bad3c od cd ol cl ob cb w 4 nm n _ _ rfl rfl rfl rfl c2 (ne_true c3)
    by_cases c5 : (b.length : Int) = 0
    case neg => unfold May0; rw [all_lean (by have : b ≠ [] := (fun e => c5 (by rw [e]; rfl)); simp [leanB, prT, eqF, nil_noS, *])]; subst c3; rw [lnil c1]; exact bad5e od cd ol cl ob cb w nm _ _ c2 (len0 c5)
    subst c3
    have e1 := lnil c1
    have e5 := lnil c5
    subst e1 e5
    have hle : leanB (.mk 4 false [] nm 0 l []) = true := by simp [leanB, prT, eqF, nil_noS, *]
    have hpp : (parts (.mk 4 false [] nm 0 l [])).all fairB = (withinB (.mk 4 false [] nm 0 l []) && l.all (fun t => (parts t).all fairB)) := by
      rw [parts_eq]
      simp only [List.all_cons, fairB, hle, Bool.true_and, Tm.kids]
      rw [← all_partsL]
      rfl
    unfold May0
    rw [hpp]
    by_cases h255 : (l.length : Int) ≤ 255
    · have hw : withinB (.mk 4 false [] nm 0 l []) = true := by simp [withinB]; omega
      rw [hw, Bool.true_and]
      exact loop4 od cd ol cl ob cb w nm l c2 h255 hTR (hid hTa) (hIHg (.inl rfl))
    · have hw : withinB (.mk 4 false [] nm 0 l []) = false := by simp [withinB]; omega
      rw [hw, Bool.false_and]
      exact long4 od cd ol l.length cl ob cb w nm c2 (by omega)
  by_cases k6 : k = 6
  · subst k6
    by_cases c0 : neg = true
    · subst c0; unfold May0; rw [all_lean (by simp [leanB, prT, eqF])]; exact bad1a od cd ol cl ob cb w 6 _ nm n _ _ rfl
    have c0' : neg = false := by simpa using c0
    subst c0'
    by_cases c1 : (d.length : Int) = 0
    case neg => unfold May0; rw [all_lean (by have : d ≠ [] := (fun e => c1 (by rw [e]; rfl)); simp [leanB, prT, eqF, *])]; exact bad1b od cd ol cl ob cb w 6 _ nm n _ _ rfl (len0 c1)
    by_cases c2 : nm.toList = []
    case neg => unfold May0; rw [all_lean (by simp [leanB, prT, eqF, nil_noS, *])]; rw [lnil c1]; exact bad2b od cd ol cl ob cb w 6 nm n _ _ rfl rfl c2
    by_cases c3 : n = 0
    case neg => unfold May0; rw [all_lean (by simp [leanB, prT, eqF, nil_noS, *])]; rw [lnil c1]; exact bad3c od cd ol cl ob cb w 6 nm n _ _ rfl rfl rfl rfl c2 (ne_true c3)
    by_cases c5 : (b.length : Int) = 0
    case neg => unfold May0; rw [all_lean (by have : b ≠ [] := (fun e => c5 (by rw [e]; rfl)); simp [leanB, prT, eqF, nil_noS, *])]; subst c3; rw [lnil c1]; exact bad5f od cd ol cl ob cb w nm _ _ c2 (len0 c5)
    subst c3
    have e1 := lnil c1
    have e5 := lnil c5
    subst e1 e5
    have hle : leanB (.mk 6 false [] nm 0 l []) = true := by simp [leanB, prT, eqF, nil_noS, *]
    have hpp : (parts (.mk 6 false [] nm 0 l [])).all fairB = (withinB (.mk 6 false [] nm 0 l []) && l.all (fun t => (parts t).all fairB)) := by
      rw [parts_eq]
      simp only [List.all_cons, fairB, hle, Bool.true_and, Tm.kids]
      rw [← all_partsL]
      rfl
    unfold May0
    rw [hpp]
    by_cases h2 : (l.length : Int) = 2
    · have hw : withinB (.mk 6 false [] nm 0 l []) = true := by simp [withinB]; omega
      rw [hw, Bool.true_and]
      exact loop6 od cd ol cl ob cb w nm l c2 (by simp; omega) (by omega) hTR (hid hTa) (hIHg (.inr rfl))
    · have hw : withinB (.mk 6 false [] nm 0 l []) = false := by simp [withinB]; omega
      rw [hw, Bool.false_and]
      exact long6 od cd ol l.length cl ob cb w nm c2 (by simp; omega)
  exact may_kx k0 k1 k2 k3 k4 k6 k7
set_option maxHeartbeats 1000000 in
theorem rMay_w (T : Tm) (v : Value) (w : World) (hok : ∀ p ∈ parts T, p.ok1) (hT : TV (Low w) w T v) (hTa : Tabs w) :
    Calls Tryd.prog 24 #[v] w fun e w' => e = .returned (.bool (mayB T)) ∧ Below w.heap.size w w' := by
  obtain ⟨k, neg, od, ld, cd, nm, n, ol, ll, cl, ob, lb, cb, rfl⟩ := hT.form
  obtain ⟨kX, hBX, hz0⟩ := bx1 w (.int .i64 k) (.bool neg) (.slice od ld cd) (.string nm) (.int .i64 n) (.slice ol ll cl) (.slice ob lb cb) 29
  have hTb : ∀ w', Below w.heap.size w w' → TV (Low w') w' T (tmV k neg (.slice od ld cd) nm n (.slice ol ll cl) (.slice ob lb cb)) := fun w' hb => tv_below hT hb
  obtain ⟨R, hR⟩ : ∃ R, mayB T = R := ⟨_, rfl⟩
  rw [hR]
  unfold mayB at hR
  have hHR := hid hR
  clear hR hT
  go_enter Tryd.func24, Tryd.ntmps24
  go_wp2_with fail
  generalize (w.alloc (.cells #[.int .i64 k, .bool neg, .slice od ld cd, .string nm, .int .i64 n, .slice ol ll cl, .slice ob lb cb] 29)) = w1 at *
  refine (rTree_w (tsz T) T _ _ (Nat.le_refl _) hok (hTb _ hBX)).mono ?_
  rintro e w2 ⟨rfl, b2⟩
  have hB2 := below_and hBX (Nat.le_refl _) b2
  obtain ⟨x0, x1, x2, x3, x4, x5, x6⟩ := (kX.below b2).res
  by_cases ht : treeN T ≤ 65536
  · have ht' : ((treeN T : Nat) : Int) ≤ 65536 := by omega
    have hRa : (parts T).all fairB = R := by rw [← hHR.out, decide_eq_true ht, Bool.true_and]
    have hHa := hid hRa
    clear ht hHR hRa
    go_wp2_with fail
    refine (rmay_w (tsz T) T _ _ (Nat.le_refl _) hok (hTb _ hB2) (hTa.below hB2)).mono ?_
    rintro e w3 ⟨rfl, b3⟩
    rw [hHa.out]
    have hB3 := below_and hB2 (Nat.le_refl _) b3
    go_wp2
    go_ret
    exact ⟨rfl, hB3⟩
  · have ht' : ¬ (((treeN T : Nat) : Int) ≤ 65536) := by omega
    have hRf : R = false := by rw [← hHR.out, decide_eq_false ht, Bool.false_and]
    subst hRf
    clear hHR ht
    go_wp2
    go_ret
    exact ⟨rfl, hB2⟩
end Go.Proofs.YtddbndachoofoaaDoor
