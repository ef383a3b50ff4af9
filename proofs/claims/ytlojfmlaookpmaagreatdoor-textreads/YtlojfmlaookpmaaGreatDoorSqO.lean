/- Texts of mine, one behind the other: CpyOrd, CpyKit, CpyW. -/
import Derived.Test.YtlojfmlaookpmaaGreatDoorSqD
import Derived.Test.YtlojfmlaookpmaaGreatDoorSqN
import Derived.Test.YtlojfmlaookpmaaGreatDoorSqI
set_option linter.unusedSimpArgs false
set_option linter.unusedVariables false
set_option maxRecDepth 2000
open List renaming getElem_toArray → zga, getElem_cons_succ → zgs, getElem_cons_zero → zgz, setIfInBounds_toArray → zsa, set_cons_succ → zss, set_cons_zero → zsz
open Array renaming getElem?_eq_some_iff → zge
namespace Go.Proofs.YtlojfmlaookpmaaGreatDoor
open Go.ChangeShapes Go.WideShapes Go.ChangeAt Go.ChangeMaps Go.RowKit
structure St_cp where
 l10 : Bool
 l13 : Bool
 l14 : Bool
 l15 : Bool
 x10 : Value
 x13 : Value
 x14 : Value
 x15 : Value
def St_cp.L (s : St_cp) : Array Bool := #[true, true, true, true, true, true, true, true, true, true, s.l10, true, true, s.l13, s.l14, s.l15, false]
def St_cp.n (s : St_cp) : Nat := (!s.l10).toNat + (!s.l13).toNat + (!s.l14).toNat + (!s.l15).toNat
def St_cp.ok (s : St_cp) : Bool := (!s.l14 || (s.l10 && s.l13))
theorem wpAnyH_cp {P : Program} {md : Region.Mode} {ops : Array Oper} {Q : Exit → Act → World → Prop} {S : World → Prop} (A : St_cp → Act) (R : St_cp → World → Prop)
   (hmem0 : (bAll fun l10 => bAll fun l13 => bAll fun l14 => bAll fun l15 => (l10 && l13 && l14 && l15) || !((!l14 || (l10 && l13))) || (!(Region.ready md ops #[true, true, true, true, true, true, true, true, true, true, l10, true, true, l13, l14, l15, false]).isEmpty && (Region.ready md ops #[true, true, true, true, true, true, true, true, true, true, l10, true, true, l13, l14, l15, false]).all fun i => (i == 10 && !l10) || (i == 13 && !l13) || (i == 14 && !l14 && l10 && l13) || (i == 15 && !l15))) = true)
   (hord : ∀ s w, R s w → s.ok = true)
   (h10 : ∀ s w, R s w → s.l10 = false → wpOp P ops Q 10 (fun a' w' => ∃ x, a' = A { s with l10 := true, x10 := x } ∧ R { s with l10 := true, x10 := x } w' ∧ S w') (A s) w)
   (h13 : ∀ s w, R s w → s.l13 = false → wpOp P ops Q 13 (fun a' w' => ∃ x, a' = A { s with l13 := true, x13 := x } ∧ R { s with l13 := true, x13 := x } w' ∧ S w') (A s) w)
   (h14 : ∀ s w, R s w → s.l14 = false → s.l10 = true → s.l13 = true → wpOp P ops Q 14 (fun a' w' => ∃ x, a' = A { s with l14 := true, x14 := x } ∧ R { s with l14 := true, x14 := x } w' ∧ S w') (A s) w)
   (h15 : ∀ s w, R s w → s.l15 = false → wpOp P ops Q 15 (fun a' w' => ∃ x, a' = A { s with l15 := true, x15 := x } ∧ R { s with l15 := true, x15 := x } w' ∧ S w') (A s) w)
   (hdone : ∀ (x10 x13 x14 x15 : Value) w, R ⟨true, true, true, true, x10, x13, x14, x15⟩ w → wpAnyH P md ops Q S 1 #[true, true, true, true, true, true, true, true, true, true, true, true, true, true, true, true, false] (A ⟨true, true, true, true, x10, x13, x14, x15⟩) w)
   (w : World) (a : Act) (x10 x13 x14 x15 : Value) (ha : a = A ⟨false, false, false, false, x10, x13, x14, x15⟩) (hR : R ⟨false, false, false, false, x10, x13, x14, x15⟩ w) :
   wpAnyH P md ops Q S 5 #[true, true, true, true, true, true, true, true, true, true, false, true, true, false, false, false, false] a w := by
 have hmem : ∀ l10 l13 l14 l15 : Bool, (l10 && l13 && l14 && l15) = false → ((!l14 || (l10 && l13))) = true → Region.ready md ops #[true, true, true, true, true, true, true, true, true, true, l10, true, true, l13, l14, l15, false] ≠ [] ∧ ∀ i ∈ Region.ready md ops #[true, true, true, true, true, true, true, true, true, true, l10, true, true, l13, l14, l15, false], (i = 10 ∧ l10 = false) ∨ (i = 13 ∧ l13 = false) ∨ (i = 14 ∧ l14 = false ∧ l10 = true ∧ l13 = true) ∨ (i = 15 ∧ l15 = false) := by
   intro l10 l13 l14 l15 he e1
   have h := (bAll_spec (bAll_spec (bAll_spec (bAll_spec hmem0 l10) l13) l14) l15)
   obtain ⟨r, hr⟩ : ∃ r, Region.ready md ops #[true, true, true, true, true, true, true, true, true, true, l10, true, true, l13, l14, l15, false] = r := ⟨_, rfl⟩
   rw [hr] at h ⊢
   rw [he, e1, Bool.not_true, Bool.false_or, Bool.false_or, Bool.and_eq_true] at h
   refine ⟨fun e => ?_, fun i hi => ?_⟩
   · rw [e] at h; simp at h
   · have h2 := List.all_eq_true.1 h.2 i hi
     simpa [or_assoc, and_assoc] using h2
 refine wpAnyH_inv (m := 1) St_cp.L A R St_cp.n ?_ ?_ ?_ 4 ⟨false, false, false, false, x10, x13, x14, x15⟩ w _ a rfl rfl ha hR
 · rintro ⟨l10, l13, l14, l15, y10, y13, y14, y15⟩ w hR hn
   refine (hmem l10 l13 l14 l15 ?_ (hord _ _ hR)).1
   clear hR
   revert hn
   cases l10 <;> cases l13 <;> cases l14 <;> cases l15 <;> simp [St_cp.n]
 · intro s w hR hn i hi
   have hm := (hmem s.l10 s.l13 s.l14 s.l15 (by
     clear hR hi
     revert hn
     rcases s with ⟨l10, l13, l14, l15, y10, y13, y14, y15⟩
     cases l10 <;> cases l13 <;> cases l14 <;> cases l15 <;> simp [St_cp.n]) (hord _ _ hR)).2 i hi
   rcases hm with ⟨rfl, e⟩ | ⟨rfl, e⟩ | ⟨rfl, e, e0, e1⟩ | ⟨rfl, e⟩
   · refine wpOp_mono (fun a' w' h => ?_) (h10 s w hR e)
     obtain ⟨x, k1, k2, k3⟩ := h
     exact ⟨_, by simp [St_cp.n, e]; try omega, rfl, k1, k2, k3⟩
   · refine wpOp_mono (fun a' w' h => ?_) (h13 s w hR e)
     obtain ⟨x, k1, k2, k3⟩ := h
     exact ⟨_, by simp [St_cp.n, e]; try omega, rfl, k1, k2, k3⟩
   · refine wpOp_mono (fun a' w' h => ?_) (h14 s w hR e e0 e1)
     obtain ⟨x, k1, k2, k3⟩ := h
     exact ⟨_, by simp [St_cp.n, e]; try omega, rfl, k1, k2, k3⟩
   · refine wpOp_mono (fun a' w' h => ?_) (h15 s w hR e)
     obtain ⟨x, k1, k2, k3⟩ := h
     exact ⟨_, by simp [St_cp.n, e]; try omega, rfl, k1, k2, k3⟩
 · rintro ⟨l10, l13, l14, l15, y10, y13, y14, y15⟩ w hR hn
   have : l10 = true ∧ l13 = true ∧ l14 = true ∧ l15 = true := by
     revert hn
     cases l10 <;> cases l13 <;> cases l14 <;> cases l15 <;> simp [St_cp.n]
   obtain ⟨rfl, rfl, rfl, rfl⟩ := this
   exact hdone _ _ _ _ w hR
structure St_ap where
 l1 : Bool
 l7 : Bool
 l8 : Bool
 x1 : Value
 x7 : Value
 x8 : Value
def St_ap.L (s : St_ap) : Array Bool := #[true, s.l1, true, true, true, true, true, s.l7, s.l8, false, false, false]
def St_ap.n (s : St_ap) : Nat := (!s.l1).toNat + (!s.l7).toNat + (!s.l8).toNat
def St_ap.ok (s : St_ap) : Bool := (!s.l8 || (s.l7))
theorem wpAnyH_ap {P : Program} {md : Region.Mode} {ops : Array Oper} {Q : Exit → Act → World → Prop} {S : World → Prop} (A : St_ap → Act) (R : St_ap → World → Prop)
   (hmem0 : (bAll fun l1 => bAll fun l7 => bAll fun l8 => (l1 && l7 && l8) || !((!l8 || (l7))) || (!(Region.ready md ops #[true, l1, true, true, true, true, true, l7, l8, false, false, false]).isEmpty && (Region.ready md ops #[true, l1, true, true, true, true, true, l7, l8, false, false, false]).all fun i => (i == 1 && !l1) || (i == 7 && !l7) || (i == 8 && !l8 && l7))) = true)
   (hord : ∀ s w, R s w → s.ok = true)
   (h1 : ∀ s w, R s w → s.l1 = false → wpOp P ops Q 1 (fun a' w' => ∃ x, a' = A { s with l1 := true, x1 := x } ∧ R { s with l1 := true, x1 := x } w' ∧ S w') (A s) w)
   (h7 : ∀ s w, R s w → s.l7 = false → wpOp P ops Q 7 (fun a' w' => ∃ x, a' = A { s with l7 := true, x7 := x } ∧ R { s with l7 := true, x7 := x } w' ∧ S w') (A s) w)
   (h8 : ∀ s w, R s w → s.l8 = false → s.l7 = true → wpOp P ops Q 8 (fun a' w' => ∃ x, a' = A { s with l8 := true, x8 := x } ∧ R { s with l8 := true, x8 := x } w' ∧ S w') (A s) w)
   (hdone : ∀ (x1 x7 x8 : Value) w, R ⟨true, true, true, x1, x7, x8⟩ w → wpAnyH P md ops Q S 3 #[true, true, true, true, true, true, true, true, true, false, false, false] (A ⟨true, true, true, x1, x7, x8⟩) w)
   (w : World) (a : Act) (x1 x7 x8 : Value) (ha : a = A ⟨false, false, false, x1, x7, x8⟩) (hR : R ⟨false, false, false, x1, x7, x8⟩ w) :
   wpAnyH P md ops Q S 6 #[true, false, true, true, true, true, true, false, false, false, false, false] a w := by
 have hmem : ∀ l1 l7 l8 : Bool, (l1 && l7 && l8) = false → ((!l8 || (l7))) = true → Region.ready md ops #[true, l1, true, true, true, true, true, l7, l8, false, false, false] ≠ [] ∧ ∀ i ∈ Region.ready md ops #[true, l1, true, true, true, true, true, l7, l8, false, false, false], (i = 1 ∧ l1 = false) ∨ (i = 7 ∧ l7 = false) ∨ (i = 8 ∧ l8 = false ∧ l7 = true) := by
   intro l1 l7 l8 he e1
   have h := (bAll_spec (bAll_spec (bAll_spec hmem0 l1) l7) l8)
   obtain ⟨r, hr⟩ : ∃ r, Region.ready md ops #[true, l1, true, true, true, true, true, l7, l8, false, false, false] = r := ⟨_, rfl⟩
   rw [hr] at h ⊢
   rw [he, e1, Bool.not_true, Bool.false_or, Bool.false_or, Bool.and_eq_true] at h
   refine ⟨fun e => ?_, fun i hi => ?_⟩
   · rw [e] at h; simp at h
   · have h2 := List.all_eq_true.1 h.2 i hi
     simpa [or_assoc, and_assoc] using h2
 refine wpAnyH_inv (m := 3) St_ap.L A R St_ap.n ?_ ?_ ?_ 3 ⟨false, false, false, x1, x7, x8⟩ w _ a rfl rfl ha hR
 · rintro ⟨l1, l7, l8, y1, y7, y8⟩ w hR hn
   refine (hmem l1 l7 l8 ?_ (hord _ _ hR)).1
   clear hR
   revert hn
   cases l1 <;> cases l7 <;> cases l8 <;> simp [St_ap.n]
 · intro s w hR hn i hi
   have hm := (hmem s.l1 s.l7 s.l8 (by
     clear hR hi
     revert hn
     rcases s with ⟨l1, l7, l8, y1, y7, y8⟩
     cases l1 <;> cases l7 <;> cases l8 <;> simp [St_ap.n]) (hord _ _ hR)).2 i hi
   rcases hm with ⟨rfl, e⟩ | ⟨rfl, e⟩ | ⟨rfl, e, e0⟩
   · refine wpOp_mono (fun a' w' h => ?_) (h1 s w hR e)
     obtain ⟨x, k1, k2, k3⟩ := h
     exact ⟨_, by simp [St_ap.n, e]; try omega, rfl, k1, k2, k3⟩
   · refine wpOp_mono (fun a' w' h => ?_) (h7 s w hR e)
     obtain ⟨x, k1, k2, k3⟩ := h
     exact ⟨_, by simp [St_ap.n, e]; try omega, rfl, k1, k2, k3⟩
   · refine wpOp_mono (fun a' w' h => ?_) (h8 s w hR e e0)
     obtain ⟨x, k1, k2, k3⟩ := h
     exact ⟨_, by simp [St_ap.n, e]; try omega, rfl, k1, k2, k3⟩
 · rintro ⟨l1, l7, l8, y1, y7, y8⟩ w hR hn
   have : l1 = true ∧ l7 = true ∧ l8 = true := by
     revert hn
     cases l1 <;> cases l7 <;> cases l8 <;> simp [St_ap.n]
   obtain ⟨rfl, rfl, rfl⟩ := this
   exact hdone _ _ _ w hR
structure St_tt where
 l1 : Bool
 l6 : Bool
 l7 : Bool
 x1 : Value
 x6 : Value
 x7 : Value
def St_tt.L (s : St_tt) : Array Bool := #[true, s.l1, true, true, true, true, s.l6, s.l7, false, false, false]
def St_tt.n (s : St_tt) : Nat := (!s.l1).toNat + (!s.l6).toNat + (!s.l7).toNat
def St_tt.ok (s : St_tt) : Bool := (!s.l7 || (s.l6))
theorem wpAnyH_tt {P : Program} {md : Region.Mode} {ops : Array Oper} {Q : Exit → Act → World → Prop} {S : World → Prop} (A : St_tt → Act) (R : St_tt → World → Prop)
   (hmem0 : (bAll fun l1 => bAll fun l6 => bAll fun l7 => (l1 && l6 && l7) || !((!l7 || (l6))) || (!(Region.ready md ops #[true, l1, true, true, true, true, l6, l7, false, false, false]).isEmpty && (Region.ready md ops #[true, l1, true, true, true, true, l6, l7, false, false, false]).all fun i => (i == 1 && !l1) || (i == 6 && !l6) || (i == 7 && !l7 && l6))) = true)
   (hord : ∀ s w, R s w → s.ok = true)
   (h1 : ∀ s w, R s w → s.l1 = false → wpOp P ops Q 1 (fun a' w' => ∃ x, a' = A { s with l1 := true, x1 := x } ∧ R { s with l1 := true, x1 := x } w' ∧ S w') (A s) w)
   (h6 : ∀ s w, R s w → s.l6 = false → wpOp P ops Q 6 (fun a' w' => ∃ x, a' = A { s with l6 := true, x6 := x } ∧ R { s with l6 := true, x6 := x } w' ∧ S w') (A s) w)
   (h7 : ∀ s w, R s w → s.l7 = false → s.l6 = true → wpOp P ops Q 7 (fun a' w' => ∃ x, a' = A { s with l7 := true, x7 := x } ∧ R { s with l7 := true, x7 := x } w' ∧ S w') (A s) w)
   (hdone : ∀ (x1 x6 x7 : Value) w, R ⟨true, true, true, x1, x6, x7⟩ w → wpAnyH P md ops Q S 3 #[true, true, true, true, true, true, true, true, false, false, false] (A ⟨true, true, true, x1, x6, x7⟩) w)
   (w : World) (a : Act) (x1 x6 x7 : Value) (ha : a = A ⟨false, false, false, x1, x6, x7⟩) (hR : R ⟨false, false, false, x1, x6, x7⟩ w) :
   wpAnyH P md ops Q S 6 #[true, false, true, true, true, true, false, false, false, false, false] a w := by
 have hmem : ∀ l1 l6 l7 : Bool, (l1 && l6 && l7) = false → ((!l7 || (l6))) = true → Region.ready md ops #[true, l1, true, true, true, true, l6, l7, false, false, false] ≠ [] ∧ ∀ i ∈ Region.ready md ops #[true, l1, true, true, true, true, l6, l7, false, false, false], (i = 1 ∧ l1 = false) ∨ (i = 6 ∧ l6 = false) ∨ (i = 7 ∧ l7 = false ∧ l6 = true) := by
   intro l1 l6 l7 he e1
   have h := (bAll_spec (bAll_spec (bAll_spec hmem0 l1) l6) l7)
   obtain ⟨r, hr⟩ : ∃ r, Region.ready md ops #[true, l1, true, true, true, true, l6, l7, false, false, false] = r := ⟨_, rfl⟩
   rw [hr] at h ⊢
   rw [he, e1, Bool.not_true, Bool.false_or, Bool.false_or, Bool.and_eq_true] at h
   refine ⟨fun e => ?_, fun i hi => ?_⟩
   · rw [e] at h; simp at h
   · have h2 := List.all_eq_true.1 h.2 i hi
     simpa [or_assoc, and_assoc] using h2
 refine wpAnyH_inv (m := 3) St_tt.L A R St_tt.n ?_ ?_ ?_ 3 ⟨false, false, false, x1, x6, x7⟩ w _ a rfl rfl ha hR
 · rintro ⟨l1, l6, l7, y1, y6, y7⟩ w hR hn
   refine (hmem l1 l6 l7 ?_ (hord _ _ hR)).1
   clear hR
   revert hn
   cases l1 <;> cases l6 <;> cases l7 <;> simp [St_tt.n]
 · intro s w hR hn i hi
   have hm := (hmem s.l1 s.l6 s.l7 (by
     clear hR hi
     revert hn
     rcases s with ⟨l1, l6, l7, y1, y6, y7⟩
     cases l1 <;> cases l6 <;> cases l7 <;> simp [St_tt.n]) (hord _ _ hR)).2 i hi
   rcases hm with ⟨rfl, e⟩ | ⟨rfl, e⟩ | ⟨rfl, e, e0⟩
   · refine wpOp_mono (fun a' w' h => ?_) (h1 s w hR e)
     obtain ⟨x, k1, k2, k3⟩ := h
     exact ⟨_, by simp [St_tt.n, e]; try omega, rfl, k1, k2, k3⟩
   · refine wpOp_mono (fun a' w' h => ?_) (h6 s w hR e)
     obtain ⟨x, k1, k2, k3⟩ := h
     exact ⟨_, by simp [St_tt.n, e]; try omega, rfl, k1, k2, k3⟩
   · refine wpOp_mono (fun a' w' h => ?_) (h7 s w hR e e0)
     obtain ⟨x, k1, k2, k3⟩ := h
     exact ⟨_, by simp [St_tt.n, e]; try omega, rfl, k1, k2, k3⟩
 · rintro ⟨l1, l6, l7, y1, y6, y7⟩ w hR hn
   have : l1 = true ∧ l6 = true ∧ l7 = true := by
     revert hn
     cases l1 <;> cases l6 <;> cases l7 <;> simp [St_tt.n]
   obtain ⟨rfl, rfl, rfl⟩ := this
   exact hdone _ _ _ w hR
open Go.Shelf
abbrev Zb (S : Nat) (w : World) : Nat → Prop := fun k => S ≤ k ∧ k < w.heap.size
theorem zb_tv {S S' : Nat} {w w' : World} {t : Tm} {v : Value} (h : TV (Zb S w) w t v) (hb : ∀ k, S ≤ k → k < w.heap.size → w'.heap[k]? = w.heap[k]?) (hs : w.heap.size ≤ w'.heap.size) (hS : S' ≤ S) : TV (Zb S' w') w' t v :=
 TV.mono (fun k _ h => ⟨Nat.le_trans hS h.1, Nat.lt_of_lt_of_le h.2 hs⟩) _ _ (TV.zs (fun k hk => hb k hk.1 hk.2) _ _ h)
def Zt (S : Nat) (w : World) : Nat → Prop := fun k => S ≤ k ∧ ∃ (cur : Array Value) (e : TypeId) (f : Nat × Nat), w.heap[k]? = some (Obj.cells cur e f) ∧ e ≠ 27
def NT (w w' : World) : Prop := ∀ (k : Nat) (cur : Array Value) (e : TypeId) (f : Nat × Nat), w.heap[k]? = some (Obj.cells cur e f) → e ≠ 27 → w'.heap[k]? = w.heap[k]?
theorem NT.of_below {w w' : World} (h : Below w.heap.size w w') : NT w w' := fun k cur e f hk _ => h.block k (zge.1 hk).1
theorem NT.refl (w : World) : NT w w := fun _ _ _ _ _ _ => rfl
theorem NT.trans {a b c : World} (h : NT a b) (k : NT b c) : NT a c := fun i cur e f hi he => by
 have h1 := h i cur e f hi he
 exact (k i cur e f (h1.trans hi) he).trans h1
theorem NT.of_only {g : Nat} {cur : Array Value} {w w' : World} (h : Only g w w') (hg : w.heap[g]? = some (.cells cur 27 (0, 0))) : NT w w' := fun k c e f hk he => h.2.2 k (fun eq => by
 subst eq
 rw [hg] at hk
 simp only [Option.some.injEq, Obj.cells.injEq] at hk
 exact he hk.2.1.symm)
theorem NT.of_grown {w w' : World} {v : Value} {B m : Nat} {xs : List Value} (h : w.grownBy w' v.ownBlock) (hO : w.ownsRow B 27 7 v m xs) : NT w w' := fun k c e f hk he => h.block k (zge.1 hk).1 (fun eq => by
 obtain ⟨_, ⟨h2, _⟩ | ⟨g', cap', cur, h2, _, hg, _⟩⟩ := hO
 · rw [h2] at eq; simp [Value.ownBlock] at eq
 · rw [h2] at eq
   simp only [Value.ownBlock, Option.some.injEq] at eq
   subst eq
   rw [hg] at hk
   simp only [Option.some.injEq, Obj.cells.injEq] at hk
   exact he hk.2.1.symm)
theorem zt_on {S : Nat} {o : Option Addr} {xs : List Value} {w w' : World} (h : Ls (Zt S w) o xs w) (hn : NT w w') : Ls (Zt S w') o xs w' :=
 Ls.mono (h.zs (fun k hk => by
   obtain ⟨_, cur, e, f, h1, h2⟩ := hk
   exact hn k cur e f h1 h2)) (fun k _ hk => by
   obtain ⟨h0, cur, e, f, h1, h2⟩ := hk
   exact ⟨h0, cur, e, f, (hn k cur e f h1 h2).trans h1, h2⟩)
theorem own_zt {S B : Nat} {w : World} {e : TypeId} {v : Value} {n : Nat} {xs : List Value} (h : w.ownsRow B e 1 v n xs) (hS : S ≤ B) (he : e ≠ 27) : ∃ o c, v = .slice o n c ∧ n ≤ c ∧ Ls (Zt S w) o xs w := by
 obtain ⟨h1, ⟨h2, rfl⟩ | ⟨g, cap, cur, h2, hB, hg, hn, _, _, ht⟩⟩ := h
 · refine ⟨none, 0, h2, Nat.le_refl _, ?_⟩
   have : xs = [] := List.eq_nil_of_length_eq_zero (by simpa using h1)
   subst this
   exact Ls.nil _ _ _
 · refine ⟨_, cap, h2, hn, fun j u hj => ⟨_, rfl, ⟨by show S ≤ g; omega, cur, e, _, hg, he⟩, ?_⟩⟩
   rw [addr_add, Nat.zero_add]
   have hj2 : j < n * 1 := by rw [← h1]; exact (List.getElem?_eq_some_iff.1 hj).1
   rw [← ht, List.getElem?_take, if_pos hj2, Array.getElem?_toList] at hj
   simp [World.cell?, hg, hj]
theorem step_append_run {P : Program} {w : World} {ops : Array Oper} {o : Oper} {a : Act} {K : Act → World → Prop} {Q : Exit → Act → World → Prop} {E : Prop} (hgd : o.guard = none) (s x : Operand) (t : TypeId) (ho : o.op = .call { callee := .builtin .append, args := #[s, x], argTypes := #[t, t] })
   (vs vx v' : Value) (w' : World) (hs : a.eval s = vs) (hx : a.eval x = vx) (hr : (Builtin.append_ #[t, t] o.type #[vs, vx]).run P w = .ok v' w') (h : K (a.put o.dst v') w') : if Region.wanted o (yielded ops a.tmps) = true then Oper.wp P o a w K Q else E := by
 have hw : Region.wanted o (yielded ops a.tmps) = true := by simp [Region.wanted, hgd]
 rw [if_pos hw]
 exact wp_append_run s x t ho vs vx v' w' hs hx hr h
abbrev zC : Array Value := #[.int .i64 0, .bool false, nilS, .string noS, .int .i64 0, nilS, nilS]
structure Rcp (V : World) (S : Nat) (k : Int) (neg : Bool) (d : List Nat) (nm : ByteArray) (n : Int) (b : List Nat) (s : St_cp) (w : World) : Prop where
 bel : Below V.heap.size V w
 ok : s.ok = true
 h10 : s.l10 = true → ∃ o c, s.x10 = .slice o d.length c ∧ d.length ≤ c ∧ Ls (Zt S w) o (lim d) w
 h13 : s.l13 = true → ∃ o c, s.x13 = .slice o b.length c ∧ b.length ≤ c ∧ Ls (Zt S w) o (bts b) w
 h14 : s.l14 = true → s.x14 = .agg #[.int .i64 k, .bool neg, s.x10, .string nm, .int .i64 n, nilS, s.x13]
 h15 : s.l15 = true → ∃ g, s.x15 = .pointer (some ⟨g, 0, none⟩) ∧ V.heap.size ≤ g ∧ w.heap[g]? = some (.cells zC 27 (0, 0))
section
variable {V : World} {S : Nat} {k : Int} {neg : Bool} {d : List Nat} {nm : ByteArray} {n : Int} {b : List Nat} {s : St_cp} {w w' : World}
theorem blk_on' {g : Nat} {o : Obj} {w w' : World} (h : w.heap[g]? = some o) (hb : Below w.heap.size w w') : w'.heap[g]? = some o := (hb.block g (zge.1 h).1).trans h
theorem Rcp.on (h : Rcp V S k neg d nm n b s w) (hb : Below w.heap.size w w') : Rcp V S k neg d nm n b s w' :=
 ⟨below_and' h.bel h.bel.size hb, h.ok, fun e => by
   obtain ⟨o, c, h1, h2, h3⟩ := h.h10 e
   exact ⟨o, c, h1, h2, zt_on h3 (NT.of_below hb)⟩, fun e => by
   obtain ⟨o, c, h1, h2, h3⟩ := h.h13 e
   exact ⟨o, c, h1, h2, zt_on h3 (NT.of_below hb)⟩, h.h14, fun e => by
   obtain ⟨g, h1, h2, h3⟩ := h.h15 e
   exact ⟨g, h1, h2, blk_on' h3 hb⟩⟩
theorem Rcp.no14 (h : Rcp V S k neg d nm n b s w) (h0 : s.l10 = false ∨ s.l13 = false) : s.l14 = false := by
 have hk := h.ok
 rcases h0 with h0 | h0 <;> cases h14 : s.l14 <;> simp_all [St_cp.ok]
theorem Rcp.c10 (h : Rcp V S k neg d nm n b s w) (h0 : s.l10 = false) (hS : S ≤ V.heap.size) {v : Value} (hO : w'.ownsRow w.heap.size 133 1 v d.length (lim d)) (hb : Below w.heap.size w w') : Rcp V S k neg d nm n b { s with l10 := true, x10 := v } w' := by
 have k1 := h.on hb
 have q := h.no14 (.inl h0)
 obtain ⟨o, c, h1, h2, h3⟩ := own_zt hO (Nat.le_trans hS h.bel.size) (by decide)
 exact ⟨k1.bel, by simp [St_cp.ok, q], fun _ => ⟨o, c, h1, h2, h3⟩, k1.h13, fun e => by simp [q] at e, k1.h15⟩
theorem Rcp.c13 (h : Rcp V S k neg d nm n b s w) (h0 : s.l13 = false) (hS : S ≤ V.heap.size) {v : Value} (hO : w'.ownsRow w.heap.size 5 1 v b.length (bts b)) (hb : Below w.heap.size w w') : Rcp V S k neg d nm n b { s with l13 := true, x13 := v } w' := by
 have k1 := h.on hb
 have q := h.no14 (.inr h0)
 obtain ⟨o, c, h1, h2, h3⟩ := own_zt hO (Nat.le_trans hS h.bel.size) (by decide)
 exact ⟨k1.bel, by simp [St_cp.ok, q], k1.h10, fun _ => ⟨o, c, h1, h2, h3⟩, fun e => by simp [q] at e, k1.h15⟩
theorem Rcp.c14 (h : Rcp V S k neg d nm n b s w) (e10 : s.l10 = true) (e13 : s.l13 = true) : Rcp V S k neg d nm n b { s with l14 := true, x14 := .agg #[.int .i64 k, .bool neg, s.x10, .string nm, .int .i64 n, nilS, s.x13] } w :=
 ⟨h.bel, by simp [St_cp.ok, e10, e13], h.h10, h.h13, fun _ => rfl, h.h15⟩
theorem Rcp.c15 (h : Rcp V S k neg d nm n b s w) : Rcp V S k neg d nm n b { s with l15 := true, x15 := .pointer (some ⟨w.heap.size, 0, none⟩) } (w.alloc (.cells zC 27)) := by
 have k1 := h.on ((Below.refl w.heap.size w).alloc (Nat.le_refl _) (.cells zC 27))
 exact ⟨k1.bel, h.ok, k1.h10, k1.h13, k1.h14, fun _ => ⟨_, rfl, h.bel.size, heap_alloc_new w _⟩⟩
end
abbrev Zq (H : Nat) (v : Value) (w : World) : Nat → Prop := fun k => H ≤ k ∧ k < w.heap.size ∧ v.ownBlock ≠ some k
structure Rap (V : World) (vL : Value) (t : Tm) (l1 l7 l8 : Bool) (x1 x7 x8 : Value) (w : World) : Prop where
 bel : Below V.heap.size V w
 ok : (!l8 || l7) = true
 h1 : l1 = true → x1 = vL
 h7 : l7 = true → ∃ xk xneg xod xld xcd xnm xn xol xll xcl xob xlb xcb, x7 = tmV xk xneg (.slice xod xld xcd) xnm xn (.slice xol xll xcl) (.slice xob xlb xcb) ∧ TV (Zb V.heap.size w) w t (tmV xk xneg (.slice xod xld xcd) xnm xn (.slice xol xll xcl) (.slice xob xlb xcb))
 h8 : l8 = true → ∃ g xk xneg xod xld xcd xnm xn xol xll xcl xob xlb xcb, x7 = tmV xk xneg (.slice xod xld xcd) xnm xn (.slice xol xll xcl) (.slice xob xlb xcb) ∧ TV (Zb V.heap.size w) w t (tmV xk xneg (.slice xod xld xcd) xnm xn (.slice xol xll xcl) (.slice xob xlb xcb)) ∧ x8 = .slice (some ⟨g, 0, none⟩) 1 1 ∧ V.heap.size ≤ g ∧ w.heap[g]? = some (.cells #[.int .i64 xk, .bool xneg, .slice xod xld xcd, .string xnm, .int .i64 xn, .slice xol xll xcl, .slice xob xlb xcb] 27 (0, 0))
section
variable {V : World} {vL : Value} {t : Tm} {l1 l7 l8 : Bool} {x1 x7 x8 : Value} {w w' : World}
theorem Rap.on (h : Rap V vL t l1 l7 l8 x1 x7 x8 w) (hb : Below w.heap.size w w') : Rap V vL t l1 l7 l8 x1 x7 x8 w' :=
 ⟨below_and' h.bel h.bel.size hb, h.ok, h.h1, fun e => by
   obtain ⟨xk, xneg, xod, xld, xcd, xnm, xn, xol, xll, xcl, xob, xlb, xcb, h1, h2⟩ := h.h7 e
   exact ⟨xk, xneg, xod, xld, xcd, xnm, xn, xol, xll, xcl, xob, xlb, xcb, h1, zb_tv h2 (fun k _ hk => hb.block k hk) hb.size (Nat.le_refl _)⟩, fun e => by
   obtain ⟨g, xk, xneg, xod, xld, xcd, xnm, xn, xol, xll, xcl, xob, xlb, xcb, h1, h2, h3, h4, h5⟩ := h.h8 e
   exact ⟨g, xk, xneg, xod, xld, xcd, xnm, xn, xol, xll, xcl, xob, xlb, xcb, h1, zb_tv h2 (fun k _ hk => hb.block k hk) hb.size (Nat.le_refl _), h3, h4, blk_on' h5 hb⟩⟩
theorem Rap.c1 (h : Rap V vL t l1 l7 l8 x1 x7 x8 w) : Rap V vL t true l7 l8 vL x7 x8 w := ⟨h.bel, h.ok, fun _ => rfl, h.h7, h.h8⟩
theorem Rap.c7 (h : Rap V vL t l1 l7 l8 x1 x7 x8 w) (h0 : l7 = false) {v : Value} (hT : TV (Zb w.heap.size w') w' t v) (hb : Below w.heap.size w w') : Rap V vL t l1 true l8 x1 v x8 w' := by
 have k1 := h.on hb
 have q : l8 = false := by have := h.ok; subst h0; simpa using this
 subst q
 obtain ⟨xk, xneg, xod, xld, xcd, xnm, xn, xol, xll, xcl, xob, xlb, xcb, rfl⟩ := hT.form
 exact ⟨k1.bel, rfl, k1.h1, fun _ => ⟨xk, xneg, xod, xld, xcd, xnm, xn, xol, xll, xcl, xob, xlb, xcb, rfl, TV.mono (fun k _ hk => ⟨Nat.le_trans h.bel.size hk.1, hk.2⟩) _ _ hT⟩, fun e => by simp at e⟩
theorem Rap.c8 {xk : Int} {xneg : Bool} {xod : Option Addr} {xld xcd : Nat} {xnm : ByteArray} {xn : Int} {xol : Option Addr} {xll xcl : Nat} {xob : Option Addr} {xlb xcb : Nat} (h : Rap V vL t l1 l7 l8 x1 (tmV xk xneg (.slice xod xld xcd) xnm xn (.slice xol xll xcl) (.slice xob xlb xcb)) x8 w) (e7 : l7 = true) : Rap V vL t l1 l7 true x1 (tmV xk xneg (.slice xod xld xcd) xnm xn (.slice xol xll xcl) (.slice xob xlb xcb)) (.slice (some ⟨w.heap.size, 0, none⟩) 1 1) (w.alloc (.cells #[.int .i64 xk, .bool xneg, .slice xod xld xcd, .string xnm, .int .i64 xn, .slice xol xll xcl, .slice xob xlb xcb] 27)) := by
 have k1 := h.on ((Below.refl w.heap.size w).alloc (Nat.le_refl _) (.cells #[.int .i64 xk, .bool xneg, .slice xod xld xcd, .string xnm, .int .i64 xn, .slice xol xll xcl, .slice xob xlb xcb] 27))
 obtain ⟨yk, yneg, yod, yld, ycd, ynm, yn, yol, yll, ycl, yob, ylb, ycb, e, hT⟩ := k1.h7 e7
 simp only [tmV, Value.agg.injEq, Array.mk.injEq, List.cons.injEq, Value.int.injEq, Value.bool.injEq, Value.slice.injEq, Value.string.injEq, and_true, true_and] at e
 obtain ⟨rfl, rfl, ⟨rfl, rfl, rfl⟩, rfl, rfl, ⟨rfl, rfl, rfl⟩, rfl, rfl, rfl⟩ := e
 exact ⟨k1.bel, by simp [e7], k1.h1, k1.h7, fun _ => ⟨w.heap.size, _, _, _, _, _, _, _, _, _, _, _, _, _, rfl, hT, rfl, h.bel.size, heap_alloc_new w _⟩⟩
end
theorem kids_fair {k : Int} {neg : Bool} {d : List Nat} {nm : ByteArray} {n : Int} {l : List Tm} {b : List Nat} (h : fairB (.mk k neg d nm n l b) = true) : (Tm.mk k neg d nm n l b).kids = l := by
 unfold fairB at h
 rw [Bool.and_eq_true] at h
 obtain ⟨h2, _⟩ := h
 by_cases hk : k = 4 ∨ k = 6
 · simp [Tm.kids, hk]
 · have e : ∃ k' neg' d' nm' n' b', prT (.mk k neg d nm n l b) = .mk k' neg' d' nm' n' [] b' := by
     unfold prT
     dsimp only
     by_cases k0 : k = 0
     · simp [k0]
     by_cases k1 : k = 1
     · simp [k1]
     by_cases k2 : k = 2
     · simp [k2]
     by_cases k3 : k = 3
     · simp [k3]
     by_cases k7 : k = 7
     · simp [k7]
     have k4 : k ≠ 4 := fun e => hk (.inl e)
     have k6 : k ≠ 6 := fun e => hk (.inr e)
     simp [k0, k1, k2, k3, k4, k6, k7]
   obtain ⟨k', neg', d', nm', n', b', e⟩ := e
   unfold leanB at h2
   rw [e] at h2
   unfold eqF at h2
   simp only [Bool.and_eq_true, decide_eq_true_eq] at h2
   have h3 := h2.1.2
   have : l = [] := List.eq_nil_of_length_eq_zero (by simpa using h3)
   subst this
   simp [Tm.kids]
theorem heap_put7 {w : World} {g : Nat} {a0 a1 a2 a3 a4 a5 a6 : Value} {T : TypeId} (h : w.heap[g]? = some (.cells #[a0, a1, a2, a3, a4, a5, a6] T (0, 0))) (b0 b1 b2 b3 b4 b5 b6 : Value) :
   (((((((w.setCell ⟨g, 0, none⟩ b0).setCell ⟨g, 1, none⟩ b1).setCell ⟨g, 2, none⟩ b2).setCell ⟨g, 3, none⟩ b3).setCell ⟨g, 4, none⟩ b4).setCell ⟨g, 5, none⟩ b5).setCell ⟨g, 6, none⟩ b6).heap[g]? = some (.cells #[b0, b1, b2, b3, b4, b5, b6] T (0, 0)) := by
 have q0 : (w.setCell ⟨g, 0, none⟩ b0).heap[g]? = some (.cells #[b0, a1, a2, a3, a4, a5, a6] T (0, 0)) := heap_setc h b0
 generalize w.setCell ⟨g, 0, none⟩ b0 = w0 at *
 have q1 : (w0.setCell ⟨g, 1, none⟩ b1).heap[g]? = some (.cells #[b0, b1, a2, a3, a4, a5, a6] T (0, 0)) := heap_setc q0 b1
 generalize w0.setCell ⟨g, 1, none⟩ b1 = w1 at *
 have q2 : (w1.setCell ⟨g, 2, none⟩ b2).heap[g]? = some (.cells #[b0, b1, b2, a3, a4, a5, a6] T (0, 0)) := heap_setc q1 b2
 generalize w1.setCell ⟨g, 2, none⟩ b2 = w2 at *
 have q3 : (w2.setCell ⟨g, 3, none⟩ b3).heap[g]? = some (.cells #[b0, b1, b2, b3, a4, a5, a6] T (0, 0)) := heap_setc q2 b3
 generalize w2.setCell ⟨g, 3, none⟩ b3 = w3 at *
 have q4 : (w3.setCell ⟨g, 4, none⟩ b4).heap[g]? = some (.cells #[b0, b1, b2, b3, b4, a5, a6] T (0, 0)) := heap_setc q3 b4
 generalize w3.setCell ⟨g, 4, none⟩ b4 = w4 at *
 have q5 : (w4.setCell ⟨g, 5, none⟩ b5).heap[g]? = some (.cells #[b0, b1, b2, b3, b4, b5, a6] T (0, 0)) := heap_setc q4 b5
 generalize w4.setCell ⟨g, 5, none⟩ b5 = w5 at *
 exact heap_setc q5 b6
theorem res7 {w : World} {g : Nat} {a0 a1 a2 a3 a4 a5 a6 : Value} {T : TypeId} (h : w.heap[g]? = some (.cells #[a0, a1, a2, a3, a4, a5, a6] T (0, 0))) : Bx g a0 a1 a2 a3 a4 a5 a6 w := by
 have hc : ∀ j, w.cell? ⟨g, j, none⟩ = (#[a0, a1, a2, a3, a4, a5, a6] : Array Value)[j]? := fun j => by simp [World.cell?, h]
 exact ⟨hc 0, hc 1, hc 2, hc 3, hc 4, hc 5, hc 6, fun j => by simp [World.frozen?, h]⟩
theorem own_trz {Z : Nat → Prop} {w : World} {B c : Nat} {o : Option Addr} {l : List Tm} {xs : List Value} (h : w.ownsRow B 27 7 (.slice o l.length c) l.length xs) (hR : RC Z w l xs) (hZ : ∀ g, o = some ⟨g, 0, none⟩ → B ≤ g → g < w.heap.size → Z g) : TR Z w l o := by
 obtain ⟨h1, ⟨h2, h3⟩ | ⟨g, cap, cur, h2, hB, hg, hn, hm, hs, ht⟩⟩ := h
 · have : l = [] := List.eq_nil_of_length_eq_zero h3
   subst this
   unfold TR; trivial
 · simp only [Value.slice.injEq, true_and] at h2
   obtain ⟨rfl, rfl⟩ := h2
   refine hR.tr (fun _ => hZ g rfl hB (zge.1 hg).1) (fun j u hj => ?_)
   rw [addr_add, Nat.zero_add]
   have hj2 : j < l.length * 7 := by rw [← h1]; exact (List.getElem?_eq_some_iff.1 hj).1
   rw [← ht, List.getElem?_take, if_pos hj2, Array.getElem?_toList] at hj
   simp [World.cell?, hg, hj]
theorem own_blk7 {w : World} {B m : Nat} {v : Value} {xs : List Value} (h : w.ownsRow B 27 7 v m xs) (k : Nat) (hk : v.ownBlock = some k) : B ≤ k ∧ k < w.heap.size := by
 obtain ⟨_, ⟨h2, _⟩ | ⟨g, cap, cur, h2, hB, hg, _⟩⟩ := h
 · rw [h2] at hk; simp [Value.ownBlock] at hk
 · rw [h2] at hk
   simp only [Value.ownBlock, Option.some.injEq] at hk
   subst hk
   exact ⟨hB, (zge.1 hg).1⟩
theorem own_blkS {w w' : World} {B s : Nat} {e : TypeId} {v : Value} {m : Nat} {xs : List Value} (h : w.ownsRow B e s v m xs) (hb : ∀ k, v.ownBlock = some k → w'.heap[k]? = w.heap[k]?) : w'.ownsRow B e s v m xs := by
 obtain ⟨h1, h2 | ⟨g', cap', cur, h2, hB, hg, rest⟩⟩ := h
 · exact ⟨h1, .inl h2⟩
 · exact ⟨h1, .inr ⟨g', cap', cur, h2, hB, (hb g' (by rw [h2]; rfl)).trans hg, rest⟩⟩
theorem row_step {H g g2 cap2 i : Nat} {oL : Option Addr} {cL : Nat} {xs : List Value} {l : List Tm} {t : Tm} {wr w w2 w3 : World} {xk : Int} {xneg : Bool} {xod : Option Addr} {xld xcd : Nat} {xnm : ByteArray} {xn : Int} {xol : Option Addr} {xll xcl : Nat} {xob : Option Addr} {xlb xcb : Nat} (hH : H ≤ wr.heap.size) (hgH : g < H)
   (hO : wr.ownsRow H 27 7 (.slice oL i cL) i xs) (hRC : RC (Zq H (.slice oL i cL) wr) wr l xs) (hb : Below wr.heap.size wr w) (hT : TV (Zb wr.heap.size w) w t (tmV xk xneg (.slice xod xld xcd) xnm xn (.slice xol xll xcl) (.slice xob xlb xcb)))
   (hg : w.grownBy w2 (Value.ownBlock (.slice oL i cL))) (hg2 : Value.ownBlock (.slice oL i cL) = some g2 ∨ g2 = w.heap.size) (hown : w2.ownsRow H 27 7 (.slice (some ⟨g2, 0, none⟩) (i + 1) cap2) (i + 1) (xs ++ [.int .i64 xk, .bool xneg, .slice xod xld xcd, .string xnm, .int .i64 xn, .slice xol xll xcl, .slice xob xlb xcb])) (ho : Only g w2 w3) :
   w3.ownsRow H 27 7 (.slice (some ⟨g2, 0, none⟩) (i + 1) cap2) (i + 1) (xs ++ [.int .i64 xk, .bool xneg, .slice xod xld xcd, .string xnm, .int .i64 xn, .slice xol xll xcl, .slice xob xlb xcb]) ∧ RC (Zq H (.slice (some ⟨g2, 0, none⟩) (i + 1) cap2) w3) w3 (l ++ [t]) (xs ++ [.int .i64 xk, .bool xneg, .slice xod xld xcd, .string xnm, .int .i64 xn, .slice xol xll xcl, .slice xob xlb xcb]) := by
 have hown' := own_blk7 hO
 have hs := hb.size
 have hs2 := hg.size
 have hs3 : w3.heap.size = w2.heap.size := ho.2.1
 have hg2' : ∀ k, Zq H (.slice oL i cL) wr k → g2 ≠ k := fun k hk e => by
   rcases hg2 with h | h
   · exact hk.2.2 (by rw [h, e])
   · have := hk.2.1; omega
 have hg2n : g2 ≠ g := fun e => by
   rcases hg2 with h | h
   · have := (hown' g2 h).1; omega
   · omega
 refine ⟨own_blkS hown (fun k hk => ho.2.2 k (by simp only [Value.ownBlock, Option.some.injEq] at hk; omega)), ?_⟩
 have hz1 : Zs (Zq H (.slice oL i cL) wr) wr w3 := fun k hk => ((ho.2.2 k (by have := hk.1; omega)).trans (hg.block k (by have := hk.2.1; omega) (fun e => hk.2.2 e.symm))).trans (hb.block k hk.2.1)
 have hz2 : Zs (Zb wr.heap.size w) w w3 := fun k hk => (ho.2.2 k (by have := hk.1; omega)).trans (hg.block k hk.2 (fun e => by have := (hown' k e.symm).2; have := hk.1; omega))
 refine RC.snoc (TV.mono (fun k hk hz => ⟨by have := hz.1; omega, hk, ?_⟩) _ _ (TV.zs hz2 _ _ hT)) (RC.mono (fun k hk hz => ⟨hz.1, hk, ?_⟩) (hRC.zs hz1))
 · simp only [Value.ownBlock, ne_eq, Option.some.injEq]
   intro e
   rcases hg2 with h | h
   · have := (hown' g2 h).2; have := hz.1; omega
   · have := hz.2; omega
 · simp only [Value.ownBlock, ne_eq, Option.some.injEq]
   exact hg2' k hz
set_option maxHeartbeats 8000000 in
set_option maxRecDepth 8000 in
theorem rCopy_w : ∀ (N : Nat) (T : Tm) (v : Value) (w : World), tsz T ≤ N → (∀ p ∈ parts T, p.ok1 ∧ fairB p = true) → TV (Low w) w T v →
   Calls Tryz.prog 21 #[v] w fun e w' => ∃ v', e = .returned v' ∧ TV (Zb w.heap.size w') w' T v' ∧ Below w.heap.size w w' := by
 intro N
 induction N with
 | zero => intro T v w h; cases T; simp only [tsz] at h; omega
 | succ N ih =>
 intro T v w hN hok hT
 obtain ⟨hok1, hfair⟩ := hok T (by rw [parts_eq]; simp)
 cases T with | mk tk tneg td tnm tn tl tb =>
 obtain ⟨hd1, hn1, hll, hb1, hm1⟩ : td.length ≤ 1000000 ∧ tnm.size ≤ 1000000 ∧ tl.length ≤ 1000000 ∧ tb.length ≤ 1000000 ∧ Lm 4294967296 td := hok1
 have hkl := kids_fair hfair
 have hok2 : Hid (∀ p ∈ partsL tl, p.ok1 ∧ fairB p = true) := hid (fun p hp => hok p (by rw [parts_eq, hkl]; simp [hp]))
 unfold TV at hT
 obtain ⟨tod, tcd, tol, tcl, tob, tcb, rfl, g1, g2, g3, g4, g5, g6, g7⟩ := hT
 have htR := hid g7
 have hg4 := hid g4
 have hIH := hid ih
 clear ih g7 hok hfair hkl g5
 obtain ⟨kA, kB, hB0, hz0⟩ := bx2 w (.int .i64 tk) (.bool tneg) (.slice tod td.length tcd) (.string tnm) (.int .i64 tn) (.slice tol tl.length tcl) (.slice tob tb.length tcb) (.int .i64 0) (.bool false) nilS (.string noS) (.int .i64 0) nilS nilS 27 27
 obtain ⟨iD, hD0, hD1, hD2, hD3⟩ := info_parts info32u
 obtain ⟨iB, hB1', hB2', hB3', hB4'⟩ := info_parts info8
 obtain ⟨iT, hT1, hT2, hT3, hT4⟩ := info_parts infoT
 have hR00 := heap_alloc_new (w.alloc (.cells #[.int .i64 tk, .bool tneg, .slice tod td.length tcd, .string tnm, .int .i64 tn, .slice tol tl.length tcl, .slice tob tb.length tcb] 27)) (.cells zC 27)
 rw [World.size_alloc] at hR00
 go_enter Tryz.func21, Tryz.ntmps21
 go_wp2_with fail
 generalize ((w.alloc (.cells #[.int .i64 tk, .bool tneg, .slice tod td.length tcd, .string tnm, .int .i64 tn, .slice tol tl.length tcl, .slice tob tb.length tcb] 27)).alloc (.cells #[.int .i64 0, .bool false, .slice none 0 0, .string { data := #[] }, .int .i64 0, .slice none 0 0, .slice none 0 0] 27)) = W0 at *
 have dW : Below W0.heap.size W0 W0.drew := (Below.refl _ W0).drew
 have hB1 := below_and hB0 (Nat.le_refl _) dW
 have hz1 : W0.drew.heap.size = w.heap.size + 2 := hz0
 have kA1 := kA.below dW
 have kB1 := kB.below dW
 have hR0 : W0.drew.heap[w.heap.size + 1]? = some (.cells zC 27 (0, 0)) := hR00
 clear hB0 hz0 kA kB dW hR00
 have hS : Hid (∀ w', Below W0.drew.heap.size W0.drew w' → (w'.cell? ⟨w.heap.size, 0, none⟩ = some (.int .i64 tk) ∧ w'.cell? ⟨w.heap.size, 1, none⟩ = some (.bool tneg) ∧ w'.cell? ⟨w.heap.size, 2, none⟩ = some (.slice tod td.length tcd) ∧ w'.cell? ⟨w.heap.size, 3, none⟩ = some (.string tnm) ∧ w'.cell? ⟨w.heap.size, 4, none⟩ = some (.int .i64 tn) ∧ w'.cell? ⟨w.heap.size, 5, none⟩ = some (.slice tol tl.length tcl) ∧ w'.cell? ⟨w.heap.size, 6, none⟩ = some (.slice tob tb.length tcb))) := hid (fun w' hb => (kA1.below hb).res)
 have hDl := hid (fun w' (hb : Below W0.drew.heap.size W0.drew w') => (g1.zs (fun k hk => (below_and hB1 (by omega) hb).block k hk)).lc)
 have hBl := hid (fun w' (hb : Below W0.drew.heap.size W0.drew w') => (hg4.out.1.zs (fun k hk => (below_and hB1 (by omega) hb).block k hk)).lc)
 have hr0 : Below W0.drew.heap.size W0.drew W0.drew := Below.refl _ _
 clear g1 g4
 refine wp_region_held_drew (S := fun w' => w'.cell? ⟨w.heap.size, 0, none⟩ = some (.int .i64 tk) ∧ w'.cell? ⟨w.heap.size, 1, none⟩ = some (.bool tneg) ∧ w'.cell? ⟨w.heap.size, 2, none⟩ = some (.slice tod td.length tcd) ∧ w'.cell? ⟨w.heap.size, 3, none⟩ = some (.string tnm) ∧ w'.cell? ⟨w.heap.size, 4, none⟩ = some (.int .i64 tn) ∧ w'.cell? ⟨w.heap.size, 5, none⟩ = some (.slice tol tl.length tcl) ∧ w'.cell? ⟨w.heap.size, 6, none⟩ = some (.slice tob tb.length tcb)) (by kernel_rfl) (by exact hS.out _ hr0) (fun hHeld => ?_)
 generalize W0.drew = V at *
 refine wpAnyH_take (i := 0) (oi := _) (v := ?_) rfl (by kernel_rfl) (by kernel_rfl) (by kernel_rfl) (fun _ _ _ h => h) (Or.inl ⟨by rfl, ?_⟩) (by assumption) ?_
 rotate_left 1
 · (intro w hSw; (try dsimp only at hSw); go_simp; try with_reducible rfl)
 try simp (maxSteps := 10000000) only [zga, zgs, zgz, Act.put, zsa, zsz, zss]
 refine wpAnyH_take (i := 1) (oi := _) (v := ?_) rfl (by kernel_rfl) (by kernel_rfl) (by kernel_rfl) (fun _ _ _ h => h) (Or.inl ⟨by rfl, ?_⟩) (by assumption) ?_
 rotate_left 1
 · (intro w hSw; (try dsimp only at hSw); go_simp; try with_reducible rfl)
 try simp (maxSteps := 10000000) only [zga, zgs, zgz, Act.put, zsa, zsz, zss]
 refine wpAnyH_take (i := 2) (oi := _) (v := ?_) rfl (by kernel_rfl) (by kernel_rfl) (by kernel_rfl) (fun _ _ _ h => h) (Or.inl ⟨by rfl, ?_⟩) (by assumption) ?_
 rotate_left 1
 · (intro w hSw; (try dsimp only at hSw); go_simp; try with_reducible rfl)
 try simp (maxSteps := 10000000) only [zga, zgs, zgz, Act.put, zsa, zsz, zss]
 refine wpAnyH_take (i := 3) (oi := _) (v := ?_) rfl (by kernel_rfl) (by kernel_rfl) (by kernel_rfl) (fun _ _ _ h => h) (Or.inl ⟨by rfl, ?_⟩) (by assumption) ?_
 rotate_left 1
 · (intro w hSw; (try dsimp only at hSw); go_simp; try with_reducible rfl)
 try simp (maxSteps := 10000000) only [zga, zgs, zgz, Act.put, zsa, zsz, zss]
 refine wpAnyH_take (i := 4) (oi := _) (v := ?_) rfl (by kernel_rfl) (by kernel_rfl) (by kernel_rfl) (fun _ _ _ h => h) (Or.inl ⟨by rfl, ?_⟩) (by assumption) ?_
 rotate_left 1
 · (intro w hSw; (try dsimp only at hSw); go_simp; try with_reducible rfl)
 try simp (maxSteps := 10000000) only [zga, zgs, zgz, Act.put, zsa, zsz, zss]
 refine wpAnyH_take (i := 5) (oi := _) (v := ?_) rfl (by kernel_rfl) (by kernel_rfl) (by kernel_rfl) (fun _ _ _ h => h) (Or.inl ⟨by rfl, ?_⟩) (by assumption) ?_
 rotate_left 1
 · (intro w hSw; (try dsimp only at hSw); go_simp; try with_reducible rfl)
 try simp (maxSteps := 10000000) only [zga, zgs, zgz, Act.put, zsa, zsz, zss]
 refine wpAnyH_take (i := 6) (oi := _) (v := ?_) rfl (by kernel_rfl) (by kernel_rfl) (by kernel_rfl) (fun _ _ _ h => h) (Or.inl ⟨by rfl, ?_⟩) (by assumption) ?_
 rotate_left 1
 · (intro w hSw; (try dsimp only at hSw); go_simp; try with_reducible rfl)
 try simp (maxSteps := 10000000) only [zga, zgs, zgz, Act.put, zsa, zsz, zss]
 refine wpAnyH_take (i := 7) (oi := _) (v := ?_) rfl (by kernel_rfl) (by kernel_rfl) (by kernel_rfl) (fun _ _ _ h => h) (Or.inl ⟨by rfl, ?_⟩) (by assumption) ?_
 rotate_left 1
 · (intro w hSw; (try dsimp only at hSw); go_simp; try with_reducible rfl)
 try simp (maxSteps := 10000000) only [zga, zgs, zgz, Act.put, zsa, zsz, zss]
 refine wpAnyH_take (i := 8) (oi := _) (v := ?_) rfl (by kernel_rfl) (by kernel_rfl) (by kernel_rfl) (fun _ _ _ h => h) (Or.inl ⟨by rfl, ?_⟩) (by assumption) ?_
 rotate_left 1
 · (intro w hSw; (try dsimp only at hSw); go_simp; try with_reducible rfl)
 try simp (maxSteps := 10000000) only [zga, zgs, zgz, Act.put, zsa, zsz, zss]
 refine wpAnyH_take (i := 9) (oi := _) (v := ?_) rfl (by kernel_rfl) (by kernel_rfl) (by kernel_rfl) (fun _ _ _ h => h) (Or.inl ⟨by rfl, ?_⟩) (by assumption) ?_
 rotate_left 1
 · (intro w hSw; (try dsimp only at hSw); go_simp; try with_reducible rfl)
 try simp (maxSteps := 10000000) only [zga, zgs, zgz, Act.put, zsa, zsz, zss]
 refine wpAnyH_take (i := 11) (oi := _) (v := ?_) rfl (by kernel_rfl) (by kernel_rfl) (by kernel_rfl) (fun _ _ _ h => h) (Or.inl ⟨by rfl, ?_⟩) (by assumption) ?_
 rotate_left 1
 · (intro w hSw; (try dsimp only at hSw); go_simp; try with_reducible rfl)
 try simp (maxSteps := 10000000) only [zga, zgs, zgz, Act.put, zsa, zsz, zss]
 refine wpAnyH_take (i := 12) (oi := _) (v := ?_) rfl (by kernel_rfl) (by kernel_rfl) (by kernel_rfl) (fun _ _ _ h => h) (Or.inl ⟨by rfl, ?_⟩) (by assumption) ?_
 rotate_left 1
 · (intro w hSw; (try dsimp only at hSw); go_simp; try with_reducible rfl)
 try simp (maxSteps := 10000000) only [zga, zgs, zgz, Act.put, zsa, zsz, zss]
 refine wpAnyH_at (m' := 5) (listed' := #[true, true, true, true, true, true, true, true, true, true, false, true, true, false, false, false, false]) (by kernel_rfl) (by kernel_rfl) ?_
 refine wpAnyH_name fun a0 ha0 => ?_
 refine wpAnyH_cp (A := fun s => (((a0.put (some 15) s.x10).put (some 18) s.x13).put (some 19) s.x14).put (some 3) s.x15) (R := Rcp V w.heap.size tk tneg td tnm tn tb) ?_ (fun s w h => h.ok) ?_ ?_ ?_ ?_ ?_ _ _ undef undef undef undef ?_ ?_
 · kernel_rfl
 · intro s w' hR h0
   obtain ⟨vD, w3, hr3, hO3, b3⟩ := ap_run 23 133 iD (.int .u32 0) 1 4 Tryz.underlying23 hD0 hD1 hD2 hD3 rfl (by decide) w' tod tcd td.length (lim td) (by simp) (fun u hu => by obtain ⟨x, _, rfl⟩ := List.mem_map.1 hu; rfl) hd1 (by omega) (hDl.out _ hR.bel)
   refine wpOp_step rfl (fun K' hK => ?_)
   have hK' := shutO hK
   clear hK
   subst ha0
   refine step_append_run rfl _ _ 23 rfl (.slice none 0 0) (.slice tod td.length tcd) vD w3 rfl rfl hr3 ?_
   refine hK'.out _ _ ⟨_, ?_, hR.c10 h0 (by omega) hO3 b3, hS.out _ (hR.c10 h0 (by omega) hO3 b3).bel⟩
   rfl
 · intro s w' hR h0
   obtain ⟨vD, w3, hr3, hO3, b3⟩ := ap_run 25 5 iB (.int .u8 0) 1 1 Tryz.underlying25 hB1' hB2' hB3' hB4' rfl (by decide) w' tob tcb tb.length (bts tb) (by simp) (fun u hu => by obtain ⟨x, _, rfl⟩ := List.mem_map.1 hu; rfl) hb1 (by omega) (hBl.out _ hR.bel)
   refine wpOp_step rfl (fun K' hK => ?_)
   have hK' := shutO hK
   clear hK
   subst ha0
   refine step_append_run rfl _ _ 25 rfl (.slice none 0 0) (.slice tob tb.length tcb) vD w3 rfl rfl hr3 ?_
   refine hK'.out _ _ ⟨_, ?_, hR.c13 h0 (by omega) hO3 b3, hS.out _ (hR.c13 h0 (by omega) hO3 b3).bel⟩
   rfl
 · intro s w' hR h0 e10 e13
   obtain ⟨l10, l13, l14, l15, x10, x13, x14, x15⟩ := s
   obtain ⟨o1, c1, hx10, _⟩ := hR.h10 e10
   obtain ⟨o2, c2, hx13, _⟩ := hR.h13 e13
   dsimp only at hx10 hx13
   subst hx10
   subst hx13
   refine wpOp_step rfl (fun K' hK => ?_)
   have hK' := shutO hK
   clear hK
   subst ha0
   simp only [Act.put, zsa, zsz, zss]
   go_simp
   refine hK'.out _ _ ⟨_, ?_, hR.c14 e10 e13, hS.out _ hR.bel⟩
   rfl
 · intro s w' hR h0
   refine wpOp_step rfl (fun K' hK => ?_)
   have hK' := shutO hK
   clear hK
   subst ha0
   simp only [Act.put, zsa, zsz, zss]
   go_simp
   refine hK'.out _ _ ⟨_, ?_, hR.c15, hS.out _ hR.c15.bel⟩
   rfl
 · intro x10 x13 x14 x15 w' hR
   obtain ⟨oD, cD, hx10, hcD, hLD⟩ := hR.h10 rfl
   obtain ⟨oB, cB, hx13, hcB, hLB⟩ := hR.h13 rfl
   have hx14 := hR.h14 rfl
   obtain ⟨g, hx15, ng, kg⟩ := hR.h15 rfl
   have hb0 := hR.bel
   clear hR
   dsimp only at hx10 hx13 hx14 hx15
   subst hx10
   subst hx13
   subst hx14
   subst hx15
   subst ha0
   try simp only [Act.put, zsa, zsz, zss]
   have kG : Bx g (.int .i64 0) (.bool false) nilS (.string noS) (.int .i64 0) nilS nilS w' := by
     have hc : ∀ j, w'.cell? ⟨g, j, none⟩ = (zC : Array Value)[j]? := fun j => by simp [World.cell?, kg]
     exact ⟨hc 0, hc 1, hc 2, hc 3, hc 4, hc 5, hc 6, fun j => by simp [World.frozen?, kg]⟩
   obtain ⟨u0, u1, u2, u3, u4, u5, u6⟩ := kG.res
   have uf := kG.fr
   refine wpAnyH_ready (rs := [16]) (by kernel_rfl) (by simp) ?_
   refine AllReadyH.cons rfl (fun K hK => ?_) AllReadyH.nil
   go_simp
   have onG := only_put w' g (.int .i64 tk) (.bool tneg) (.slice oD td.length cD) (.string tnm) (.int .i64 tn) nilS (.slice oB tb.length cB)
   have hgA : (((((((w'.setCell ⟨g, 0, none⟩ (.int .i64 tk)).setCell ⟨g, 1, none⟩ (.bool tneg)).setCell ⟨g, 2, none⟩ (.slice oD td.length cD)).setCell ⟨g, 3, none⟩ (.string tnm)).setCell ⟨g, 4, none⟩ (.int .i64 tn)).setCell ⟨g, 5, none⟩ nilS).setCell ⟨g, 6, none⟩ (.slice oB tb.length cB)).heap[g]? = some (.cells #[.int .i64 tk, .bool tneg, .slice oD td.length cD, .string tnm, .int .i64 tn, nilS, .slice oB tb.length cB] 27 (0, 0)) := heap_put7 kg (.int .i64 tk) (.bool tneg) (.slice oD td.length cD) (.string tnm) (.int .i64 tn) nilS (.slice oB tb.length cB)
   clear u0 u1 u2 u3 u4 u5 u6 uf
   generalize (((((((w'.setCell ⟨g, 0, none⟩ (.int .i64 tk)).setCell ⟨g, 1, none⟩ (.bool tneg)).setCell ⟨g, 2, none⟩ (.slice oD td.length cD)).setCell ⟨g, 3, none⟩ (.string tnm)).setCell ⟨g, 4, none⟩ (.int .i64 tn)).setCell ⟨g, 5, none⟩ nilS).setCell ⟨g, 6, none⟩ (.slice oB tb.length cB)) = wA at *
   have bA : Below V.heap.size V wA := hb0.trans (onG.below (B := V.heap.size) ng)
   try go_simp
   refine hK.out _ _ ?_ (fun hHeld => ?_)
   · first | exact hS.out _ (by assumption) | exact qs3 | exact qs2
   clear hK K
   try simp (maxSteps := 10000000) only [zga, zgs, zgz, Act.put, zsa, zsz, zss]
   refine wpAnyH_done (by kernel_rfl) ?_ _
   have LD := zt_on hLD (NT.of_only onG kg)
   have LB := zt_on hLB (NT.of_only onG kg)
   have hgl : g < wA.heap.size := (zge.1 hgA).1
   have hSw : w.heap.size + 2 ≤ wA.heap.size := by have := bA.size; omega
   have HD := hid LD
   have HB := hid LB
   have HM := hid (And.intro hm1 hg4.out.2)
   clear hLD hLB onG kg kG hS hDl hBl hr0 hHeld hg4 LD LB hm1
   have hng := ng
   go_wp2_with fail
   go_loopg [4] tl.length (fun t v4 wr => ∃ (i : Nat) (vL : Value) (xs : List Value), t + i = tl.length ∧ v4 = .int .i64 (i : Int) ∧ wr.heap[g]? = some (.cells #[.int .i64 tk, .bool tneg, .slice oD td.length cD, .string tnm, .int .i64 tn, vL, .slice oB tb.length cB] 27 (0, 0)) ∧ wr.ownsRow wA.heap.size 27 7 vL i xs ∧ RC (Zq wA.heap.size vL wr) wr (tl.take i) xs ∧ NT wA wr ∧ Below V.heap.size V wr ∧ wA.heap.size ≤ wr.heap.size)
   case atStart => exact ⟨0, nilS, [], by omega, rfl, hgA, World.ownsRow_nil _ _ _ _, rfl, NT.refl _, bA, Nat.le_refl _⟩
   case round =>
     obtain ⟨i, vL, xs, hti, rfl, hgr, hOw, hRC, hnt, hbV, hsz⟩ := hrel
     clear hgA bA
     obtain ⟨oL, cL, rfl, hcL⟩ := own_sl hOw
     have kA2 := kA1.below hbV
     have kG2 := res7 hgr
     by_cases hil : i < tl.length
     · have hii : ((i : Nat) : Int) < ((tl.length : Nat) : Int) := by omega
       obtain ⟨t, ht⟩ : ∃ t, tl[i]? = some t := ⟨tl[i], by simp [hil]⟩
       have hBw : Below w.heap.size w wr := hB1.trans (below_le hbV (by omega))
       obtain ⟨pa, pk, pneg, pod, pld, pcd, pnm, pn, pol, pll, pcl, pob, plb, pcb, hpa, hTp, y0, y1, y2, y3, y4, y5, y6⟩ := htR.out.get ht hBw
       subst hpa
       have hszt : tsz t ≤ N := by have := tsz_mem ht; simp only [tsz] at hN; omega
       have hokt : ∀ p ∈ parts t, p.ok1 ∧ fairB p = true := fun p hp => hok2.out p (mem_partsL ht hp)
       have htk : Hid (tl.take (i + 1) = tl.take i ++ [t]) := hid (by rw [List.take_add_one, ht]; rfl)
       clear ht hBw
       have dV5 : Below wr.heap.size wr wr.drew := (Below.refl _ wr).drew
       have hO3 : wr.drew.ownsRow wA.heap.size 27 7 (.slice oL i cL) i xs := own_blkS hOw (fun k hk => rfl)
       have hRC3 : RC (Zq wA.heap.size (.slice oL i cL) wr.drew) wr.drew (tl.take i) xs := RC.mono (fun k hk hz => hz) (RC.zs (Z := Zq wA.heap.size (.slice oL i cL) wr) (w := wr) (w' := wr.drew) (fun k hk => rfl) hRC)
       have hgr3 : wr.drew.heap[g]? = some (.cells #[.int .i64 tk, .bool tneg, .slice oD td.length cD, .string tnm, .int .i64 tn, .slice oL i cL, .slice oB tb.length cB] 27 (0, 0)) := hgr
       have hnt3 := hnt.trans (NT.of_below dV5)
       have hbV3 : Below V.heap.size V wr.drew := hbV.drew
       have hsz3 : wA.heap.size ≤ wr.drew.heap.size := hsz
       have hTp3 := tv_below hTp dV5
       have hpl : pa.block < w.heap.size := by
         have h1 := htR.out
         cases tl with
         | nil => simp at hil
         | cons q qs =>
           unfold TR at h1
           obtain ⟨a, _, e, h2, _⟩ := h1
           injection e with e
           rw [e]; exact h2
       have hSk : Hid (∀ w' : World, (∀ k, k < w.heap.size + 1 → w'.heap[k]? = wr.drew.heap[k]?) → (w'.cell? ⟨w.heap.size, 0, none⟩ = some (.int .i64 tk) ∧ w'.cell? ⟨w.heap.size, 1, none⟩ = some (.bool tneg) ∧ w'.cell? ⟨w.heap.size, 2, none⟩ = some (.slice tod td.length tcd) ∧ w'.cell? ⟨w.heap.size, 3, none⟩ = some (.string tnm) ∧ w'.cell? ⟨w.heap.size, 4, none⟩ = some (.int .i64 tn) ∧ w'.cell? ⟨w.heap.size, 5, none⟩ = some (.slice (some pa) tl.length tcl) ∧ w'.cell? ⟨w.heap.size, 6, none⟩ = some (.slice tob tb.length tcb) ∧ w'.cell? (pa.add (i * 7)) = some (.int .i64 pk) ∧ w'.cell? ⟨(pa.add (i * 7)).block, (pa.add (i * 7)).off + 1, none⟩ = some (.bool pneg) ∧ w'.cell? ⟨(pa.add (i * 7)).block, (pa.add (i * 7)).off + 2, none⟩ = some (.slice pod pld pcd) ∧ w'.cell? ⟨(pa.add (i * 7)).block, (pa.add (i * 7)).off + 3, none⟩ = some (.string pnm) ∧ w'.cell? ⟨(pa.add (i * 7)).block, (pa.add (i * 7)).off + 4, none⟩ = some (.int .i64 pn) ∧ w'.cell? ⟨(pa.add (i * 7)).block, (pa.add (i * 7)).off + 5, none⟩ = some (.slice pol pll pcl) ∧ w'.cell? ⟨(pa.add (i * 7)).block, (pa.add (i * 7)).off + 6, none⟩ = some (.slice pob plb pcb))) := hid (fun w' hb => by
         obtain ⟨x0, x1, x2, x3, x4, x5, x6⟩ := (kA2.of_block (w' := w') (hb _ (by omega))).res
         have q : ∀ {a : Addr} {v : Value}, a.block = pa.block → wr.cell? a = some v → w'.cell? a = some v := fun e h => (World.cell?_of_block (hb _ (by rw [e]; omega))).trans h
         exact ⟨x0, x1, x2, x3, x4, x5, x6, q (block_add _ _) y0, q (block_add _ _) y1, q (block_add _ _) y2, q (block_add _ _) y3, q (block_add _ _) y4, q (block_add _ _) y5, q (block_add _ _) y6⟩)
       have hS : Hid (∀ w', Below wr.drew.heap.size wr.drew w' → (w'.cell? ⟨w.heap.size, 0, none⟩ = some (.int .i64 tk) ∧ w'.cell? ⟨w.heap.size, 1, none⟩ = some (.bool tneg) ∧ w'.cell? ⟨w.heap.size, 2, none⟩ = some (.slice tod td.length tcd) ∧ w'.cell? ⟨w.heap.size, 3, none⟩ = some (.string tnm) ∧ w'.cell? ⟨w.heap.size, 4, none⟩ = some (.int .i64 tn) ∧ w'.cell? ⟨w.heap.size, 5, none⟩ = some (.slice (some pa) tl.length tcl) ∧ w'.cell? ⟨w.heap.size, 6, none⟩ = some (.slice tob tb.length tcb) ∧ w'.cell? (pa.add (i * 7)) = some (.int .i64 pk) ∧ w'.cell? ⟨(pa.add (i * 7)).block, (pa.add (i * 7)).off + 1, none⟩ = some (.bool pneg) ∧ w'.cell? ⟨(pa.add (i * 7)).block, (pa.add (i * 7)).off + 2, none⟩ = some (.slice pod pld pcd) ∧ w'.cell? ⟨(pa.add (i * 7)).block, (pa.add (i * 7)).off + 3, none⟩ = some (.string pnm) ∧ w'.cell? ⟨(pa.add (i * 7)).block, (pa.add (i * 7)).off + 4, none⟩ = some (.int .i64 pn) ∧ w'.cell? ⟨(pa.add (i * 7)).block, (pa.add (i * 7)).off + 5, none⟩ = some (.slice pol pll pcl) ∧ w'.cell? ⟨(pa.add (i * 7)).block, (pa.add (i * 7)).off + 6, none⟩ = some (.slice pob plb pcb))) := hid (fun w' hb => hSk.out w' (fun k hk => hb.block k (by omega)))
       obtain ⟨x0, x1, x2, x3, x4, x5, x6⟩ := kA2.res
       clear hRC hOw hgr hnt hbV hsz hTp dV5 kG2 y0 y1 y2 y3 y4 y5 y6
       go_wp2_with fail
       clear x0 x1 x2 x3 x4 x5 x6 kA2
       refine wp_region_held_drew (S := fun w' => w'.cell? ⟨w.heap.size, 0, none⟩ = some (.int .i64 tk) ∧ w'.cell? ⟨w.heap.size, 1, none⟩ = some (.bool tneg) ∧ w'.cell? ⟨w.heap.size, 2, none⟩ = some (.slice tod td.length tcd) ∧ w'.cell? ⟨w.heap.size, 3, none⟩ = some (.string tnm) ∧ w'.cell? ⟨w.heap.size, 4, none⟩ = some (.int .i64 tn) ∧ w'.cell? ⟨w.heap.size, 5, none⟩ = some (.slice (some pa) tl.length tcl) ∧ w'.cell? ⟨w.heap.size, 6, none⟩ = some (.slice tob tb.length tcb) ∧ w'.cell? (pa.add (i * 7)) = some (.int .i64 pk) ∧ w'.cell? ⟨(pa.add (i * 7)).block, (pa.add (i * 7)).off + 1, none⟩ = some (.bool pneg) ∧ w'.cell? ⟨(pa.add (i * 7)).block, (pa.add (i * 7)).off + 2, none⟩ = some (.slice pod pld pcd) ∧ w'.cell? ⟨(pa.add (i * 7)).block, (pa.add (i * 7)).off + 3, none⟩ = some (.string pnm) ∧ w'.cell? ⟨(pa.add (i * 7)).block, (pa.add (i * 7)).off + 4, none⟩ = some (.int .i64 pn) ∧ w'.cell? ⟨(pa.add (i * 7)).block, (pa.add (i * 7)).off + 5, none⟩ = some (.slice pol pll pcl) ∧ w'.cell? ⟨(pa.add (i * 7)).block, (pa.add (i * 7)).off + 6, none⟩ = some (.slice pob plb pcb)) (by kernel_rfl) (by exact hS.out _ (Below.refl _ _)) (fun hHeld => ?_)
       generalize wr.drew = V5 at *
       refine wpAnyH_take (i := 0) (oi := _) (v := ?_) rfl (by kernel_rfl) (by kernel_rfl) (by kernel_rfl) (fun _ _ _ h => h) (Or.inl ⟨by rfl, ?_⟩) (by assumption) ?_
       rotate_left 1
       · (intro w hSw; (try dsimp only at hSw); go_simp; try with_reducible rfl)
       try simp (maxSteps := 10000000) only [zga, zgs, zgz, Act.put, zsa, zsz, zss]
       refine wpAnyH_take (i := 2) (oi := _) (v := ?_) rfl (by kernel_rfl) (by kernel_rfl) (by kernel_rfl) (fun _ _ _ h => h) (Or.inl ⟨by rfl, ?_⟩) (by assumption) ?_
       rotate_left 1
       · (intro w hSw; (try dsimp only at hSw); go_simp; try with_reducible rfl)
       try simp (maxSteps := 10000000) only [zga, zgs, zgz, Act.put, zsa, zsz, zss]
       refine wpAnyH_take (i := 3) (oi := _) (v := ?_) rfl (by kernel_rfl) (by kernel_rfl) (by kernel_rfl) (fun _ _ _ h => h) (Or.inl ⟨by rfl, ?_⟩) (by assumption) ?_
       rotate_left 1
       · (intro w hSw; (try dsimp only at hSw); go_simp; try with_reducible rfl)
       try simp (maxSteps := 10000000) only [zga, zgs, zgz, Act.put, zsa, zsz, zss]
       refine wpAnyH_take (i := 4) (oi := _) (v := ?_) rfl (by kernel_rfl) (by kernel_rfl) (by kernel_rfl) (fun _ _ _ h => h) (Or.inl ⟨by rfl, ?_⟩) (by assumption) ?_
       rotate_left 1
       · (intro w hSw; (try dsimp only at hSw); go_simp; try with_reducible rfl)
       try simp (maxSteps := 10000000) only [zga, zgs, zgz, Act.put, zsa, zsz, zss]
       refine wpAnyH_take (i := 5) (oi := _) (v := ?_) rfl (by kernel_rfl) (by kernel_rfl) (by kernel_rfl) (fun _ _ _ h => h) (Or.inl ⟨by rfl, ?_⟩) (by assumption) ?_
       rotate_left 1
       · (intro w hSw; (try dsimp only at hSw); go_simp; try with_reducible rfl)
       try simp (maxSteps := 10000000) only [zga, zgs, zgz, Act.put, zsa, zsz, zss]
       refine wpAnyH_take (i := 6) (oi := _) (v := ?_) rfl (by kernel_rfl) (by kernel_rfl) (by kernel_rfl) (fun _ _ _ h => h) (Or.inl ⟨by rfl, ?_⟩) (by assumption) ?_
       rotate_left 1
       · (intro w hSw; (try dsimp only at hSw); go_simp; try with_reducible rfl)
       try simp (maxSteps := 10000000) only [zga, zgs, zgz, Act.put, zsa, zsz, zss]
       refine wpAnyH_at (m' := 6) (listed' := #[true, false, true, true, true, true, true, false, false, false, false, false]) (by kernel_rfl) (by kernel_rfl) ?_
       refine wpAnyH_name fun a0 ha0 => ?_
       refine wpAnyH_ap (A := fun s => ((a0.put (some 28) s.x1).put (some 34) s.x7).put (some 35) s.x8) (R := fun s w => Rap V5 (.slice oL i cL) t s.l1 s.l7 s.l8 s.x1 s.x7 s.x8 w) ?_ (fun s w h => h.ok) ?_ ?_ ?_ ?_ _ _ u28 u34 u35 ?_ ?_
       · kernel_rfl
       · intro s w' hR h0
         have hc : w'.cell? ⟨g, 5, none⟩ = some (.slice oL i cL) := (res7 (blk_on' hgr3 hR.bel)).c5
         refine wpOp_step rfl (fun K' hK => ?_)
         have hK' := shutO hK
         clear hK
         subst ha0
         simp only [Act.put, zsa, zsz, zss]
         go_simp
         refine hK'.out _ _ ⟨_, ?_, hR.c1, hS.out _ hR.bel⟩
         rfl
       · intro s w' hR h0
         refine wpOp_step rfl (fun K' hK => ?_)
         have hK' := shutO hK
         clear hK
         subst ha0
         simp only [Act.put, zsa, zsz, zss]
         go_simp
         refine (hIH.out t _ _ hszt hokt (tv_below hTp3 hR.bel)).mono ?_
         rintro e w7 ⟨v7, rfl, hT7, b7⟩
         try go_simp
         refine hK'.out _ _ ⟨_, ?_, hR.c7 h0 hT7 b7, hS.out _ (hR.c7 h0 hT7 b7).bel⟩
         rfl
       · intro s w' hR h0 e7
         obtain ⟨l1, l7, l8, x1, x7, x8⟩ := s
         dsimp only at hR e7 h0
         obtain ⟨xk, xneg, xod, xld, xcd, xnm, xn, xol, xll, xcl, xob, xlb, xcb, hx7, _⟩ := hR.h7 e7
         subst hx7
         refine wpOp_step rfl (fun K' hK => ?_)
         have hK' := shutO hK
         clear hK
         subst ha0
         simp only [Act.put, zsa, zsz, zss]
         go_simp
         refine hK'.out _ _ ⟨_, ?_, hR.c8 e7, hS.out _ (hR.c8 e7).bel⟩
         rfl
       · intro x1 x7 x8 w5 hR
         have hx1 := hR.h1 rfl
         obtain ⟨gn, xk, xneg, xod, xld, xcd, xnm, xn, xol, xll, xcl, xob, xlb, xcb, hx7, hT5, hx8, hgn, kgn⟩ := hR.h8 rfl
         have hb5 := hR.bel
         clear hR
         dsimp only at hx1 hx7 hx8
         subst hx1
         subst hx7
         subst hx8
         subst ha0
         try simp only [Act.put, zsa, zsz, zss]
         have hO5 : w5.ownsRow wA.heap.size 27 7 (.slice oL i cL) i xs := own_blkS hO3 (fun k hk => hb5.block k (own_blk7 hO3 k hk).2)
         have hg5 := blk_on' hgr3 hb5
         have hcr : ∀ (j : Nat) (u : Value), ([.int .i64 xk, .bool xneg, .slice xod xld xcd, .string xnm, .int .i64 xn, .slice xol xll xcl, .slice xob xlb xcb] : List Value)[j]? = some u → w5.cell? ((⟨gn, 0, none⟩ : Addr).add j) = some u := by
           intro j u hj
           rw [addr_add, Nat.zero_add]
           simp only [World.cell?, kgn]
           simpa using hj
         have hone : ∀ u ∈ ([.int .i64 xk, .bool xneg, .slice xod xld xcd, .string xnm, .int .i64 xn, .slice xol xll xcl, .slice xob xlb xcb] : List Value), u.oneCell' = true := by
           intro u hu
           simp only [List.mem_cons, List.not_mem_nil, or_false] at hu
           rcases hu with rfl | rfl | rfl | rfl | rfl | rfl | rfl <;> rfl
         refine wpAnyH_ready (rs := [9]) (by kernel_rfl) (by simp) ?_
         refine AllReadyH.cons rfl (fun K hK => ?_) AllReadyH.nil
         refine step_append_lies _ rfl _ _ 24 rfl wA.heap.size 27 iT (.agg #[.int .i64 0, .bool false, .slice none 0 0, .string ⟨#[]⟩, .int .i64 0, .slice none 0 0, .slice none 0 0]) 7 112 Tryz.underlying24 hT1 hT2 hT3 hT4 rfl (by decide) (.slice oL i cL) i xs rfl hO5 ⟨gn, 0, none⟩ 1 1 [.int .i64 xk, .bool xneg, .slice xod xld xcd, .string xnm, .int .i64 xn, .slice xol xll xcl, .slice xob xlb xcb] rfl rfl hcr hone (by decide) (by unfold maxLen; omega) (by omega) (by have := hb5.size; omega) w5.heap.size rfl (fun g2 cap2 w2 hown hgrow hg2 hlt2 => ?_)
         have hgg : w2.heap[g]? = w5.heap[g]? := hgrow.block g (by have := hb5.size; omega) (fun e => by have := (own_blk7 hO5 g e.symm).1; omega)
         have hg5' := hgg.trans hg5
         obtain ⟨f0, f1, f2, f3, f4, f5, f6⟩ := (res7 hg5').res
         have ff := (res7 hg5').fr
         have c5b : Below V5.heap.size V5 w2 → True := fun _ => trivial
         have q2 : ∀ k, k < V5.heap.size → k ≠ g → Value.ownBlock (.slice oL i cL) ≠ some k → w2.heap[k]? = V5.heap[k]? := fun k hk _ hn => (hgrow.block k (by have := hb5.size; omega) (fun e => hn e.symm)).trans (hb5.block k hk)
         have qs2 := hSk.out w2 (fun k hk => q2 k (by omega) (by omega) (fun e => by have := (own_blk7 hO5 k e).1; omega))
         refine hK.out _ _ ?_ (fun hHeld => ?_)
         · first | exact hS.out _ (by assumption) | exact qs3 | exact qs2
         clear hK K
         try simp (maxSteps := 10000000) only [zga, zgs, zgz, Act.put, zsa, zsz, zss]
         refine wpAnyH_take (i := 10) (oi := _) (v := ?_) rfl (by kernel_rfl) (by kernel_rfl) (by kernel_rfl) (fun _ _ _ h => h) (Or.inl ⟨by rfl, ?_⟩) (by assumption) ?_
         rotate_left 1
         · (intro w hSw; (try dsimp only at hSw); go_simp; try with_reducible rfl)
         try simp (maxSteps := 10000000) only [zga, zgs, zgz, Act.put, zsa, zsz, zss]
         refine wpAnyH_ready (rs := [11]) (by kernel_rfl) (by simp) ?_
         refine AllReadyH.cons rfl (fun K hK => ?_) AllReadyH.nil
         go_simp
         have on5 := only_set w2 g 5 (.slice (some ⟨g2, 0, none⟩) (i + 1) cap2)
         have hg6 : (w2.setCell ⟨g, 5, none⟩ (.slice (some ⟨g2, 0, none⟩) (i + 1) cap2)).heap[g]? = some (.cells #[.int .i64 tk, .bool tneg, .slice oD td.length cD, .string tnm, .int .i64 tn, .slice (some ⟨g2, 0, none⟩) (i + 1) cap2, .slice oB tb.length cB] 27 (0, 0)) := heap_setc hg5' _
         clear f0 f1 f2 f3 f4 f5 f6 ff
         generalize w2.setCell ⟨g, 5, none⟩ (.slice (some ⟨g2, 0, none⟩) (i + 1) cap2) = w3 at *
         have qs3 := hSk.out w3 (fun k hk => (on5.2.2 k (by omega)).trans (q2 k (by omega) (by omega) (fun e => by have := (own_blk7 hO5 k e).1; omega)))
         try go_simp
         refine hK.out _ _ ?_ (fun hHeld => ?_)
         · first | exact hS.out _ (by assumption) | exact qs3 | exact qs2
         clear hK K
         try simp (maxSteps := 10000000) only [zga, zgs, zgz, Act.put, zsa, zsz, zss]
         refine wpAnyH_done (by kernel_rfl) ?_ _
         obtain ⟨hO6, hRC6⟩ := row_step hsz3 hgl hO3 hRC3 hb5 hT5 hgrow hg2 hown on5
         have hn6 := ((hnt3.trans (NT.of_below hb5)).trans (NT.of_grown hgrow hO5)).trans (NT.of_only on5 hg5')
         have hsz6 : wA.heap.size ≤ w3.heap.size := by have := hb5.size; have := hgrow.size; have : w3.heap.size = w2.heap.size := on5.2.1; omega
         have hb6 : Below V.heap.size V w3 := (((below_and' hbV3 hbV3.size hb5).trans (⟨hgrow.os, hgrow.tape, hgrow.output, hgrow.size, fun k hk => hgrow.block k (by have := hb5.size; have := hbV3.size; omega) (fun e => by have := (own_blk7 hO5 k e.symm).1; omega)⟩ : Below V.heap.size w5 w2)).trans (on5.below (B := V.heap.size) hng))
         clear hO5 hg5 hcr hone hgrow hg2 hown hb5 hT5 q2 qs2 qs3 c5b hgg hg5' kgn hSk hS on5 hlt2
         go_wp2
         go_roundg (tl.length - (i + 1))
         case measure => omega
         case rel => exact ⟨i + 1, _, _, by omega, by go_num, hg6, hO6, by rw [htk.out]; exact hRC6, hn6, hb6, hsz6⟩
       · subst ha0; rfl
       · exact ⟨Below.refl _ _, rfl, fun h => by simp at h, fun h => by simp at h, fun h => by simp at h⟩
     · have hi2 : i = tl.length := by omega
       subst hi2
       have hii : ¬ ((tl.length : Nat) : Int) < ((tl.length : Nat) : Int) := by omega
       have kB2 := kB1.below hbV
       have hRb : wr.heap[w.heap.size + 1]? = some (.cells zC 27 (0, 0)) := (hbV.block _ (by omega)).trans hR0
       obtain ⟨x0, x1, x2, x3, x4, x5, x6⟩ := kA2.res
       obtain ⟨y0, y1, y2, y3, y4, y5, y6⟩ := kG2.res
       obtain ⟨z0, z1, z2, z3, z4, z5, z6⟩ := kB2.res
       have zf := kB2.fr
       have onR := only_put wr (w.heap.size + 1) (.int .i64 tk) (.bool tneg) (.slice oD td.length cD) (.string tnm) (.int .i64 tn) (.slice oL tl.length cL) (.slice oB tb.length cB)
       obtain ⟨r0, r1, r2, r3, r4, r5, r6⟩ := (kB2.put (b0 := .int .i64 tk) (b1 := .bool tneg) (b2 := .slice oD td.length cD) (b3 := .string tnm) (b4 := .int .i64 tn) (b5 := .slice oL tl.length cL) (b6 := .slice oB tb.length cB)).res
       have hfin : TV (Zb w.heap.size (((((((wr.setCell ⟨w.heap.size + 1, 0, none⟩ (.int .i64 tk)).setCell ⟨w.heap.size + 1, 1, none⟩ (.bool tneg)).setCell ⟨w.heap.size + 1, 2, none⟩ (.slice oD td.length cD)).setCell ⟨w.heap.size + 1, 3, none⟩ (.string tnm)).setCell ⟨w.heap.size + 1, 4, none⟩ (.int .i64 tn)).setCell ⟨w.heap.size + 1, 5, none⟩ (.slice oL tl.length cL)).setCell ⟨w.heap.size + 1, 6, none⟩ (.slice oB tb.length cB))) (((((((wr.setCell ⟨w.heap.size + 1, 0, none⟩ (.int .i64 tk)).setCell ⟨w.heap.size + 1, 1, none⟩ (.bool tneg)).setCell ⟨w.heap.size + 1, 2, none⟩ (.slice oD td.length cD)).setCell ⟨w.heap.size + 1, 3, none⟩ (.string tnm)).setCell ⟨w.heap.size + 1, 4, none⟩ (.int .i64 tn)).setCell ⟨w.heap.size + 1, 5, none⟩ (.slice oL tl.length cL)).setCell ⟨w.heap.size + 1, 6, none⟩ (.slice oB tb.length cB)) (.mk tk tneg td tnm tn tl tb) (tmV tk tneg (.slice oD td.length cD) tnm tn (.slice oL tl.length cL) (.slice oB tb.length cB)) := by
         have hsF : wr.heap.size = (((((((wr.setCell ⟨w.heap.size + 1, 0, none⟩ (.int .i64 tk)).setCell ⟨w.heap.size + 1, 1, none⟩ (.bool tneg)).setCell ⟨w.heap.size + 1, 2, none⟩ (.slice oD td.length cD)).setCell ⟨w.heap.size + 1, 3, none⟩ (.string tnm)).setCell ⟨w.heap.size + 1, 4, none⟩ (.int .i64 tn)).setCell ⟨w.heap.size + 1, 5, none⟩ (.slice oL tl.length cL)).setCell ⟨w.heap.size + 1, 6, none⟩ (.slice oB tb.length cB)).heap.size := onR.2.1.symm
         have n2 := hnt.trans (NT.of_only onR hRb)
         have qd := zt_on HD.out n2
         have qb := zt_on HB.out n2
         have toZ : ∀ (W : World) (k : Nat), k < W.heap.size → Zt w.heap.size W k → Zb w.heap.size W k := fun W k hk h => ⟨h.1, hk⟩
         have hO2 := own_blkS hOw (fun k hk => onR.2.2 k (by have := (own_blk7 hOw k hk).1; omega))
         rw [List.take_length] at hRC
         have hR2 := RC.mono (Z' := Zb w.heap.size (((((((wr.setCell ⟨w.heap.size + 1, 0, none⟩ (.int .i64 tk)).setCell ⟨w.heap.size + 1, 1, none⟩ (.bool tneg)).setCell ⟨w.heap.size + 1, 2, none⟩ (.slice oD td.length cD)).setCell ⟨w.heap.size + 1, 3, none⟩ (.string tnm)).setCell ⟨w.heap.size + 1, 4, none⟩ (.int .i64 tn)).setCell ⟨w.heap.size + 1, 5, none⟩ (.slice oL tl.length cL)).setCell ⟨w.heap.size + 1, 6, none⟩ (.slice oB tb.length cB))) (fun k hk hz => ⟨by have := hz.1; omega, hk⟩) (hRC.zs (w' := (((((((wr.setCell ⟨w.heap.size + 1, 0, none⟩ (.int .i64 tk)).setCell ⟨w.heap.size + 1, 1, none⟩ (.bool tneg)).setCell ⟨w.heap.size + 1, 2, none⟩ (.slice oD td.length cD)).setCell ⟨w.heap.size + 1, 3, none⟩ (.string tnm)).setCell ⟨w.heap.size + 1, 4, none⟩ (.int .i64 tn)).setCell ⟨w.heap.size + 1, 5, none⟩ (.slice oL tl.length cL)).setCell ⟨w.heap.size + 1, 6, none⟩ (.slice oB tb.length cB))) (fun k hk => onR.2.2 k (by have := hk.1; omega)))
         unfold TV
         refine ⟨oD, cD, oL, cL, oB, cB, rfl, qd.mono (toZ _), hcD, HM.out.1, ⟨qb.mono (toZ _), HM.out.2⟩, hcB, hcL, own_trz hO2 hR2 (fun q _ hq hq2 => ⟨by omega, hq2⟩)⟩
       have hBF : Below w.heap.size w (((((((wr.setCell ⟨w.heap.size + 1, 0, none⟩ (.int .i64 tk)).setCell ⟨w.heap.size + 1, 1, none⟩ (.bool tneg)).setCell ⟨w.heap.size + 1, 2, none⟩ (.slice oD td.length cD)).setCell ⟨w.heap.size + 1, 3, none⟩ (.string tnm)).setCell ⟨w.heap.size + 1, 4, none⟩ (.int .i64 tn)).setCell ⟨w.heap.size + 1, 5, none⟩ (.slice oL tl.length cL)).setCell ⟨w.heap.size + 1, 6, none⟩ (.slice oB tb.length cB)) := (below_and' hB1 (by omega) (below_le hbV (Nat.le_refl _)) |> fun h => h).trans (onR.below (B := w.heap.size) (by omega))
       have HF := hid hfin
       have HBF := hid hBF
       clear hfin hBF onR hRC hOw hnt
       go_wp2
       exact bodyPost_ret (v := tmV tk tneg (.slice oD td.length cD) tnm tn (.slice oL tl.length cL) (.slice oB tb.length cB)) (by simp [results, Tryz.results21, go_sem, r0, r1, r2, r3, r4, r5, r6]) rfl ⟨_, rfl, HF.out, HBF.out⟩
 · subst ha0; rfl
 · exact ⟨Below.refl _ _, rfl, fun h => by simp at h, fun h => by simp at h, fun h => by simp at h, fun h => by simp at h⟩
end Go.Proofs.YtlojfmlaookpmaaGreatDoor
