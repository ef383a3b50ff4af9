/- Operations of the reference's Copy and of its makers, in whatever order. -/
import Derived.Test.YtpdoepjnkgffpaaDoorOrdMakers
import Derived.Test.YtpdoepjnkgffpaaDoorTermBigA
namespace Go.Proofs.YtpdoepjnkgffpaaDoor
open Go.ChangeShapes Go.WideShapes Go.ChangeAt Go.ChangeMaps Go.RowKit
set_option linter.unusedSimpArgs false
set_option linter.unusedVariables false
set_option maxRecDepth 2000
structure St_cp where
  l10 : Bool
  l13 : Bool
  l14 : Bool
  l15 : Bool
  x10 : Value
  x13 : Value
  x14 : Value
  x15 : Value
def St_cp.L (s : St_cp) : Array Bool := #[true, true, true, true, true, true, true, true, true, true, s.l10, true, true, s.l13, s.l14, s.l15, false]
def St_cp.n (s : St_cp) : Nat := (!s.l10).toNat + (!s.l13).toNat + (!s.l14).toNat + (!s.l15).toNat
def St_cp.ok (s : St_cp) : Bool := (!s.l14 || (s.l10 && s.l13))
theorem wpAnyH_cp {P : Program} {md : Region.Mode} {ops : Array Oper} {Q : Exit → Act → World → Prop} {S : World → Prop} (A : St_cp → Act) (R : St_cp → World → Prop)
    (hmem0 : (bAll fun l10 => bAll fun l13 => bAll fun l14 => bAll fun l15 => (l10 && l13 && l14 && l15) || !((!l14 || (l10 && l13))) || (!(Region.ready md ops #[true, true, true, true, true, true, true, true, true, true, l10, true, true, l13, l14, l15, false]).isEmpty && (Region.ready md ops #[true, true, true, true, true, true, true, true, true, true, l10, true, true, l13, l14, l15, false]).all fun i => (i == 10 && !l10) || (i == 13 && !l13) || (i == 14 && !l14 && l10 && l13) || (i == 15 && !l15))) = true)
    (hord : ∀ s w, R s w → s.ok = true)
    (h10 : ∀ s w, R s w → s.l10 = false → wpOp P ops Q 10 (fun a' w' => ∃ x, a' = A { s with l10 := true, x10 := x } ∧ R { s with l10 := true, x10 := x } w' ∧ S w') (A s) w)
    (h13 : ∀ s w, R s w → s.l13 = false → wpOp P ops Q 13 (fun a' w' => ∃ x, a' = A { s with l13 := true, x13 := x } ∧ R { s with l13 := true, x13 := x } w' ∧ S w') (A s) w)
    (h14 : ∀ s w, R s w → s.l14 = false → s.l10 = true → s.l13 = true → wpOp P ops Q 14 (fun a' w' => ∃ x, a' = A { s with l14 := true, x14 := x } ∧ R { s with l14 := true, x14 := x } w' ∧ S w') (A s) w)
    (h15 : ∀ s w, R s w → s.l15 = false → wpOp P ops Q 15 (fun a' w' => ∃ x, a' = A { s with l15 := true, x15 := x } ∧ R { s with l15 := true, x15 := x } w' ∧ S w') (A s) w)
    (hdone : ∀ (x10 x13 x14 x15 : Value) w, R ⟨true, true, true, true, x10, x13, x14, x15⟩ w → wpAnyH P md ops Q S 1 #[true, true, true, true, true, true, true, true, true, true, true, true, true, true, true, true, false] (A ⟨true, true, true, true, x10, x13, x14, x15⟩) w)
    (w : World) (a : Act) (x10 x13 x14 x15 : Value) (ha : a = A ⟨false, false, false, false, x10, x13, x14, x15⟩) (hR : R ⟨false, false, false, false, x10, x13, x14, x15⟩ w) :
    wpAnyH P md ops Q S 5 #[true, true, true, true, true, true, true, true, true, true, false, true, true, false, false, false, false] a w := by
  have hmem : ∀ l10 l13 l14 l15 : Bool, (l10 && l13 && l14 && l15) = false → ((!l14 || (l10 && l13))) = true → Region.ready md ops #[true, true, true, true, true, true, true, true, true, true, l10, true, true, l13, l14, l15, false] ≠ [] ∧ ∀ i ∈ Region.ready md ops #[true, true, true, true, true, true, true, true, true, true, l10, true, true, l13, l14, l15, false], (i = 10 ∧ l10 = false) ∨ (i = 13 ∧ l13 = false) ∨ (i = 14 ∧ l14 = false ∧ l10 = true ∧ l13 = true) ∨ (i = 15 ∧ l15 = false) := by
    intro l10 l13 l14 l15 he e1
    have h := (bAll_spec (bAll_spec (bAll_spec (bAll_spec hmem0 l10) l13) l14) l15)
    obtain ⟨r, hr⟩ : ∃ r, Region.ready md ops #[true, true, true, true, true, true, true, true, true, true, l10, true, true, l13, l14, l15, false] = r := ⟨_, rfl⟩
    rw [hr] at h ⊢
    rw [he, e1, Bool.not_true, Bool.false_or, Bool.false_or, Bool.and_eq_true] at h
    refine ⟨fun e => ?_, fun i hi => ?_⟩
    · rw [e] at h; simp at h
    · have h2 := List.all_eq_true.1 h.2 i hi
      simpa [or_assoc, and_assoc] using h2
  refine wpAnyH_inv (m := 1) St_cp.L A R St_cp.n ?_ ?_ ?_ 4 ⟨false, false, false, false, x10, x13, x14, x15⟩ w _ a rfl rfl ha hR
  · rintro ⟨l10, l13, l14, l15, y10, y13, y14, y15⟩ w hR hn
    refine (hmem l10 l13 l14 l15 ?_ (hord _ _ hR)).1
    clear hR
    revert hn
    cases l10 <;> cases l13 <;> cases l14 <;> cases l15 <;> simp [St_cp.n]
  · intro s w hR hn i hi
    have hm := (hmem s.l10 s.l13 s.l14 s.l15 (by
      clear hR hi
      revert hn
      rcases s with ⟨l10, l13, l14, l15, y10, y13, y14, y15⟩
      cases l10 <;> cases l13 <;> cases l14 <;> cases l15 <;> simp [St_cp.n]) (hord _ _ hR)).2 i hi
    rcases hm with ⟨rfl, e⟩ | ⟨rfl, e⟩ | ⟨rfl, e, e0, e1⟩ | ⟨rfl, e⟩
    · refine wpOp_mono (fun a' w' h => ?_) (h10 s w hR e)
      obtain ⟨x, k1, k2, k3⟩ := h
      exact ⟨_, by simp [St_cp.n, e]; try omega, rfl, k1, k2, k3⟩
    · refine wpOp_mono (fun a' w' h => ?_) (h13 s w hR e)
      obtain ⟨x, k1, k2, k3⟩ := h
      exact ⟨_, by simp [St_cp.n, e]; try omega, rfl, k1, k2, k3⟩
    · refine wpOp_mono (fun a' w' h => ?_) (h14 s w hR e e0 e1)
      obtain ⟨x, k1, k2, k3⟩ := h
      exact ⟨_, by simp [St_cp.n, e]; try omega, rfl, k1, k2, k3⟩
    · refine wpOp_mono (fun a' w' h => ?_) (h15 s w hR e)
      obtain ⟨x, k1, k2, k3⟩ := h
      exact ⟨_, by simp [St_cp.n, e]; try omega, rfl, k1, k2, k3⟩
  · rintro ⟨l10, l13, l14, l15, y10, y13, y14, y15⟩ w hR hn
    have : l10 = true ∧ l13 = true ∧ l14 = true ∧ l15 = true := by
      revert hn
      cases l10 <;> cases l13 <;> cases l14 <;> cases l15 <;> simp [St_cp.n]
    obtain ⟨rfl, rfl, rfl, rfl⟩ := this
    exact hdone _ _ _ _ w hR
structure St_ap where
  l1 : Bool
  l7 : Bool
  l8 : Bool
  x1 : Value
  x7 : Value
  x8 : Value
def St_ap.L (s : St_ap) : Array Bool := #[true, s.l1, true, true, true, true, true, s.l7, s.l8, false, false, false]
def St_ap.n (s : St_ap) : Nat := (!s.l1).toNat + (!s.l7).toNat + (!s.l8).toNat
def St_ap.ok (s : St_ap) : Bool := (!s.l8 || (s.l7))
theorem wpAnyH_ap {P : Program} {md : Region.Mode} {ops : Array Oper} {Q : Exit → Act → World → Prop} {S : World → Prop} (A : St_ap → Act) (R : St_ap → World → Prop)
    (hmem0 : (bAll fun l1 => bAll fun l7 => bAll fun l8 => (l1 && l7 && l8) || !((!l8 || (l7))) || (!(Region.ready md ops #[true, l1, true, true, true, true, true, l7, l8, false, false, false]).isEmpty && (Region.ready md ops #[true, l1, true, true, true, true, true, l7, l8, false, false, false]).all fun i => (i == 1 && !l1) || (i == 7 && !l7) || (i == 8 && !l8 && l7))) = true)
    (hord : ∀ s w, R s w → s.ok = true)
    (h1 : ∀ s w, R s w → s.l1 = false → wpOp P ops Q 1 (fun a' w' => ∃ x, a' = A { s with l1 := true, x1 := x } ∧ R { s with l1 := true, x1 := x } w' ∧ S w') (A s) w)
    (h7 : ∀ s w, R s w → s.l7 = false → wpOp P ops Q 7 (fun a' w' => ∃ x, a' = A { s with l7 := true, x7 := x } ∧ R { s with l7 := true, x7 := x } w' ∧ S w') (A s) w)
    (h8 : ∀ s w, R s w → s.l8 = false → s.l7 = true → wpOp P ops Q 8 (fun a' w' => ∃ x, a' = A { s with l8 := true, x8 := x } ∧ R { s with l8 := true, x8 := x } w' ∧ S w') (A s) w)
    (hdone : ∀ (x1 x7 x8 : Value) w, R ⟨true, true, true, x1, x7, x8⟩ w → wpAnyH P md ops Q S 3 #[true, true, true, true, true, true, true, true, true, false, false, false] (A ⟨true, true, true, x1, x7, x8⟩) w)
    (w : World) (a : Act) (x1 x7 x8 : Value) (ha : a = A ⟨false, false, false, x1, x7, x8⟩) (hR : R ⟨false, false, false, x1, x7, x8⟩ w) :
    wpAnyH P md ops Q S 6 #[true, false, true, true, true, true, true, false, false, false, false, false] a w := by
  have hmem : ∀ l1 l7 l8 : Bool, (l1 && l7 && l8) = false → ((!l8 || (l7))) = true → Region.ready md ops #[true, l1, true, true, true, true, true, l7, l8, false, false, false] ≠ [] ∧ ∀ i ∈ Region.ready md ops #[true, l1, true, true, true, true, true, l7, l8, false, false, false], (i = 1 ∧ l1 = false) ∨ (i = 7 ∧ l7 = false) ∨ (i = 8 ∧ l8 = false ∧ l7 = true) := by
    intro l1 l7 l8 he e1
    have h := (bAll_spec (bAll_spec (bAll_spec hmem0 l1) l7) l8)
    obtain ⟨r, hr⟩ : ∃ r, Region.ready md ops #[true, l1, true, true, true, true, true, l7, l8, false, false, false] = r := ⟨_, rfl⟩
    rw [hr] at h ⊢
    rw [he, e1, Bool.not_true, Bool.false_or, Bool.false_or, Bool.and_eq_true] at h
    refine ⟨fun e => ?_, fun i hi => ?_⟩
    · rw [e] at h; simp at h
    · have h2 := List.all_eq_true.1 h.2 i hi
      simpa [or_assoc, and_assoc] using h2
  refine wpAnyH_inv (m := 3) St_ap.L A R St_ap.n ?_ ?_ ?_ 3 ⟨false, false, false, x1, x7, x8⟩ w _ a rfl rfl ha hR
  · rintro ⟨l1, l7, l8, y1, y7, y8⟩ w hR hn
    refine (hmem l1 l7 l8 ?_ (hord _ _ hR)).1
    clear hR
    revert hn
    cases l1 <;> cases l7 <;> cases l8 <;> simp [St_ap.n]
  · intro s w hR hn i hi
    have hm := (hmem s.l1 s.l7 s.l8 (by
      clear hR hi
      revert hn
      rcases s with ⟨l1, l7, l8, y1, y7, y8⟩
      cases l1 <;> cases l7 <;> cases l8 <;> simp [St_ap.n]) (hord _ _ hR)).2 i hi
    rcases hm with ⟨rfl, e⟩ | ⟨rfl, e⟩ | ⟨rfl, e, e0⟩
    · refine wpOp_mono (fun a' w' h => ?_) (h1 s w hR e)
      obtain ⟨x, k1, k2, k3⟩ := h
      exact ⟨_, by simp [St_ap.n, e]; try omega, rfl, k1, k2, k3⟩
    · refine wpOp_mono (fun a' w' h => ?_) (h7 s w hR e)
      obtain ⟨x, k1, k2, k3⟩ := h
      exact ⟨_, by simp [St_ap.n, e]; try omega, rfl, k1, k2, k3⟩
    · refine wpOp_mono (fun a' w' h => ?_) (h8 s w hR e e0)
      obtain ⟨x, k1, k2, k3⟩ := h
      exact ⟨_, by simp [St_ap.n, e]; try omega, rfl, k1, k2, k3⟩
  · rintro ⟨l1, l7, l8, y1, y7, y8⟩ w hR hn
    have : l1 = true ∧ l7 = true ∧ l8 = true := by
      revert hn
      cases l1 <;> cases l7 <;> cases l8 <;> simp [St_ap.n]
    obtain ⟨rfl, rfl, rfl⟩ := this
    exact hdone _ _ _ w hR
structure St_tt where
  l1 : Bool
  l6 : Bool
  l7 : Bool
  x1 : Value
  x6 : Value
  x7 : Value
def St_tt.L (s : St_tt) : Array Bool := #[true, s.l1, true, true, true, true, s.l6, s.l7, false, false, false]
def St_tt.n (s : St_tt) : Nat := (!s.l1).toNat + (!s.l6).toNat + (!s.l7).toNat
def St_tt.ok (s : St_tt) : Bool := (!s.l7 || (s.l6))
theorem wpAnyH_tt {P : Program} {md : Region.Mode} {ops : Array Oper} {Q : Exit → Act → World → Prop} {S : World → Prop} (A : St_tt → Act) (R : St_tt → World → Prop)
    (hmem0 : (bAll fun l1 => bAll fun l6 => bAll fun l7 => (l1 && l6 && l7) || !((!l7 || (l6))) || (!(Region.ready md ops #[true, l1, true, true, true, true, l6, l7, false, false, false]).isEmpty && (Region.ready md ops #[true, l1, true, true, true, true, l6, l7, false, false, false]).all fun i => (i == 1 && !l1) || (i == 6 && !l6) || (i == 7 && !l7 && l6))) = true)
    (hord : ∀ s w, R s w → s.ok = true)
    (h1 : ∀ s w, R s w → s.l1 = false → wpOp P ops Q 1 (fun a' w' => ∃ x, a' = A { s with l1 := true, x1 := x } ∧ R { s with l1 := true, x1 := x } w' ∧ S w') (A s) w)
    (h6 : ∀ s w, R s w → s.l6 = false → wpOp P ops Q 6 (fun a' w' => ∃ x, a' = A { s with l6 := true, x6 := x } ∧ R { s with l6 := true, x6 := x } w' ∧ S w') (A s) w)
    (h7 : ∀ s w, R s w → s.l7 = false → s.l6 = true → wpOp P ops Q 7 (fun a' w' => ∃ x, a' = A { s with l7 := true, x7 := x } ∧ R { s with l7 := true, x7 := x } w' ∧ S w') (A s) w)
    (hdone : ∀ (x1 x6 x7 : Value) w, R ⟨true, true, true, x1, x6, x7⟩ w → wpAnyH P md ops Q S 3 #[true, true, true, true, true, true, true, true, false, false, false] (A ⟨true, true, true, x1, x6, x7⟩) w)
    (w : World) (a : Act) (x1 x6 x7 : Value) (ha : a = A ⟨false, false, false, x1, x6, x7⟩) (hR : R ⟨false, false, false, x1, x6, x7⟩ w) :
    wpAnyH P md ops Q S 6 #[true, false, true, true, true, true, false, false, false, false, false] a w := by
  have hmem : ∀ l1 l6 l7 : Bool, (l1 && l6 && l7) = false → ((!l7 || (l6))) = true → Region.ready md ops #[true, l1, true, true, true, true, l6, l7, false, false, false] ≠ [] ∧ ∀ i ∈ Region.ready md ops #[true, l1, true, true, true, true, l6, l7, false, false, false], (i = 1 ∧ l1 = false) ∨ (i = 6 ∧ l6 = false) ∨ (i = 7 ∧ l7 = false ∧ l6 = true) := by
    intro l1 l6 l7 he e1
    have h := (bAll_spec (bAll_spec (bAll_spec hmem0 l1) l6) l7)
    obtain ⟨r, hr⟩ : ∃ r, Region.ready md ops #[true, l1, true, true, true, true, l6, l7, false, false, false] = r := ⟨_, rfl⟩
    rw [hr] at h ⊢
    rw [he, e1, Bool.not_true, Bool.false_or, Bool.false_or, Bool.and_eq_true] at h
    refine ⟨fun e => ?_, fun i hi => ?_⟩
    · rw [e] at h; simp at h
    · have h2 := List.all_eq_true.1 h.2 i hi
      simpa [or_assoc, and_assoc] using h2
  refine wpAnyH_inv (m := 3) St_tt.L A R St_tt.n ?_ ?_ ?_ 3 ⟨false, false, false, x1, x6, x7⟩ w _ a rfl rfl ha hR
  · rintro ⟨l1, l6, l7, y1, y6, y7⟩ w hR hn
    refine (hmem l1 l6 l7 ?_ (hord _ _ hR)).1
    clear hR
    revert hn
    cases l1 <;> cases l6 <;> cases l7 <;> simp [St_tt.n]
  · intro s w hR hn i hi
    have hm := (hmem s.l1 s.l6 s.l7 (by
      clear hR hi
      revert hn
      rcases s with ⟨l1, l6, l7, y1, y6, y7⟩
      cases l1 <;> cases l6 <;> cases l7 <;> simp [St_tt.n]) (hord _ _ hR)).2 i hi
    rcases hm with ⟨rfl, e⟩ | ⟨rfl, e⟩ | ⟨rfl, e, e0⟩
    · refine wpOp_mono (fun a' w' h => ?_) (h1 s w hR e)
      obtain ⟨x, k1, k2, k3⟩ := h
      exact ⟨_, by simp [St_tt.n, e]; try omega, rfl, k1, k2, k3⟩
    · refine wpOp_mono (fun a' w' h => ?_) (h6 s w hR e)
      obtain ⟨x, k1, k2, k3⟩ := h
      exact ⟨_, by simp [St_tt.n, e]; try omega, rfl, k1, k2, k3⟩
    · refine wpOp_mono (fun a' w' h => ?_) (h7 s w hR e e0)
      obtain ⟨x, k1, k2, k3⟩ := h
      exact ⟨_, by simp [St_tt.n, e]; try omega, rfl, k1, k2, k3⟩
  · rintro ⟨l1, l6, l7, y1, y6, y7⟩ w hR hn
    have : l1 = true ∧ l6 = true ∧ l7 = true := by
      revert hn
      cases l1 <;> cases l6 <;> cases l7 <;> simp [St_tt.n]
    obtain ⟨rfl, rfl, rfl⟩ := this
    exact hdone _ _ _ w hR
end Go.Proofs.YtpdoepjnkgffpaaDoor
