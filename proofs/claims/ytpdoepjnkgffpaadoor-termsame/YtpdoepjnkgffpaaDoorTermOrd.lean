/- Two calls in a row beside two terms' variables that are made at any time. -/
import Derived.Test.YtpdoepjnkgffpaaDoorTermAlike
import Derived.Test.YtpdoepjnkgffpaaDoorTermBigA
namespace Go.Proofs.YtpdoepjnkgffpaaDoor
open Go.ChangeShapes Go.WideShapes Go.ChangeAt Go.ChangeMaps Go.RowKit
set_option linter.unusedSimpArgs false
set_option linter.unusedVariables false
set_option maxRecDepth 2000
abbrev BxZ (g : Nat) (w : World) : Prop := Bx g (.int .i64 0) (.bool false) nilS (.string noS) (.int .i64 0) nilS nilS w
def NewBx (N : Nat) (x : Value) (w : World) : Prop := ∃ g, x = .pointer (some ⟨g, 0, none⟩) ∧ N ≤ g ∧ g < w.heap.size ∧ BxZ g w
theorem NewBx.below {N : Nat} {x : Value} {w w' : World} (h : NewBx N x w) (hb : Below w.heap.size w w') : NewBx N x w' := by
  obtain ⟨g, rfl, h1, h2, h3⟩ := h
  exact ⟨g, rfl, h1, Nat.lt_of_lt_of_le h2 hb.size, h3.below hb⟩
abbrev zeroC : Array Value := #[.int .i64 0, .bool false, nilS, .string noS, .int .i64 0, nilS, nilS]
theorem NewBx.new {N : Nat} (w : World) (t : TypeId) (hN : N ≤ w.heap.size) : NewBx N (.pointer (some ⟨w.heap.size, 0, none⟩)) (w.alloc (.cells zeroC t)) := ⟨w.heap.size, rfl, hN, by simp, Bx.new w _ _ _ _ _ _ _ t⟩
theorem NewBx.ne {N : Nat} {x : Value} {w : World} (h : NewBx N x w) : x ≠ .pointer (some ⟨w.heap.size, 0, none⟩) := by
  obtain ⟨g, rfl, _, h2, _⟩ := h
  intro e
  simp only [Value.pointer.injEq, Option.some.injEq, Addr.mk.injEq, and_true] at e
  omega
structure St7 where
  l1 : Bool
  l3 : Bool
  l4 : Bool
  l5 : Bool
  x1 : Value
  x3 : Value
  x4 : Value
  x5 : Value
def St7.L (s : St7) : Array Bool := #[true, true, true, true, s.l1, true, true, true, true, s.l3, s.l4, s.l5, false, false]
def St7.n (s : St7) : Nat := (!s.l1).toNat + (!s.l3).toNat + (!s.l4).toNat + (!s.l5).toNat
structure R7 (N : Nat) (W : World) (va vb : Value) (s : St7) (w : World) : Prop where
  bel : Below N W w
  size : N ≤ w.heap.size
  o3 : s.l3 = true → s.l1 = true
  h1 : s.l1 = true → s.x1 = va
  h3 : s.l3 = true → s.x3 = vb
  h4 : s.l4 = true → NewBx N s.x4 w
  h5 : s.l5 = true → NewBx N s.x5 w
  h45 : s.l4 = true → s.l5 = true → s.x4 ≠ s.x5
theorem R7.on {N : Nat} {W : World} {va vb : Value} {s : St7} {w w' : World} (h : R7 N W va vb s w) (hb : Below w.heap.size w w') : R7 N W va vb s w' :=
  ⟨below_and' h.bel h.size hb, Nat.le_trans h.size hb.size, h.o3, h.h1, h.h3, fun e => (h.h4 e).below hb, fun e => (h.h5 e).below hb, h.h45⟩
theorem R7.c1 {N : Nat} {W : World} {va vb : Value} {s : St7} {w w' : World} (h : R7 N W va vb s w) (hb : Below w.heap.size w w') : R7 N W va vb { s with l1 := true, x1 := va } w' := by
  have k := h.on hb
  exact ⟨k.bel, k.size, fun _ => rfl, fun _ => rfl, k.h3, k.h4, k.h5, k.h45⟩
theorem R7.c3 {N : Nat} {W : World} {va vb : Value} {s : St7} {w w' : World} (h : R7 N W va vb s w) (he : s.l1 = true) (hb : Below w.heap.size w w') : R7 N W va vb { s with l3 := true, x3 := vb } w' := by
  have k := h.on hb
  exact ⟨k.bel, k.size, fun _ => he, k.h1, fun _ => rfl, k.h4, k.h5, k.h45⟩
theorem R7.n4 {N : Nat} {W : World} {va vb : Value} {s : St7} {w : World} (t : TypeId) (h : R7 N W va vb s w) : R7 N W va vb { s with l4 := true, x4 := .pointer (some ⟨w.heap.size, 0, none⟩) } (w.alloc (.cells zeroC t)) := by
  have k := h.on ((Below.refl w.heap.size w).alloc (Nat.le_refl _) (.cells zeroC t))
  exact ⟨k.bel, k.size, k.o3, k.h1, k.h3, fun _ => NewBx.new w t h.size, k.h5, fun _ e => (h.h5 e).ne.symm⟩
theorem R7.n5 {N : Nat} {W : World} {va vb : Value} {s : St7} {w : World} (t : TypeId) (h : R7 N W va vb s w) : R7 N W va vb { s with l5 := true, x5 := .pointer (some ⟨w.heap.size, 0, none⟩) } (w.alloc (.cells zeroC t)) := by
  have k := h.on ((Below.refl w.heap.size w).alloc (Nat.le_refl _) (.cells zeroC t))
  exact ⟨k.bel, k.size, k.o3, k.h1, k.h3, k.h4, fun _ => NewBx.new w t h.size, fun e _ => (h.h4 e).ne⟩
theorem wpAnyH_inv7 {P : Program} {md : Region.Mode} {ops : Array Oper} {Q : Exit → Act → World → Prop} {S : World → Prop} (A : St7 → Act) (R : St7 → World → Prop)
    (hmem0 : (bAll fun l1 => bAll fun l3 => bAll fun l4 => bAll fun l5 => (l1 && l3 && l4 && l5) || (l3 && !l1) || (!(Region.ready md ops #[true, true, true, true, l1, true, true, true, true, l3, l4, l5, false, false]).isEmpty && (Region.ready md ops #[true, true, true, true, l1, true, true, true, true, l3, l4, l5, false, false]).all fun i => (i == 4 && !l1) || (i == 9 && !l3 && l1) || (i == 10 && !l4) || (i == 11 && !l5))) = true)
    (hord : ∀ s w, R s w → (s.l3 = true → s.l1 = true))
    (h1 : ∀ s w, R s w → wpOp P ops Q 4 (fun a' w' => ∃ x, a' = A { s with l1 := true, x1 := x } ∧ R { s with l1 := true, x1 := x } w' ∧ S w') (A s) w)
    (h3 : ∀ s w, R s w → s.l1 = true → wpOp P ops Q 9 (fun a' w' => ∃ x, a' = A { s with l3 := true, x3 := x } ∧ R { s with l3 := true, x3 := x } w' ∧ S w') (A s) w)
    (h4 : ∀ s w, R s w → wpOp P ops Q 10 (fun a' w' => ∃ x, a' = A { s with l4 := true, x4 := x } ∧ R { s with l4 := true, x4 := x } w' ∧ S w') (A s) w)
    (h5 : ∀ s w, R s w → wpOp P ops Q 11 (fun a' w' => ∃ x, a' = A { s with l5 := true, x5 := x } ∧ R { s with l5 := true, x5 := x } w' ∧ S w') (A s) w)
    (hdone : ∀ (x1 x3 x4 x5 : Value) w, R ⟨true, true, true, true, x1, x3, x4, x5⟩ w → wpAnyH P md ops Q S 2 #[true, true, true, true, true, true, true, true, true, true, true, true, false, false] (A ⟨true, true, true, true, x1, x3, x4, x5⟩) w)
    (w : World) (a : Act) (x1 x3 x4 x5 : Value) (ha : a = A ⟨false, false, false, false, x1, x3, x4, x5⟩) (hR : R ⟨false, false, false, false, x1, x3, x4, x5⟩ w) :
    wpAnyH P md ops Q S 6 #[true, true, true, true, false, true, true, true, true, false, false, false, false, false] a w := by
  have hmem : ∀ l1 l3 l4 l5 : Bool, (l1 && l3 && l4 && l5) = false → (l3 = true → l1 = true) → Region.ready md ops #[true, true, true, true, l1, true, true, true, true, l3, l4, l5, false, false] ≠ [] ∧ ∀ i ∈ Region.ready md ops #[true, true, true, true, l1, true, true, true, true, l3, l4, l5, false, false], (i = 4 ∧ l1 = false) ∨ (i = 9 ∧ l3 = false ∧ l1 = true) ∨ (i = 10 ∧ l4 = false) ∨ (i = 11 ∧ l5 = false) := by
    intro l1 l3 l4 l5 he e1
    have h := bAll_spec (bAll_spec (bAll_spec (bAll_spec hmem0 l1) l3) l4) l5
    have e3 : (l3 && !l1) = false := by cases l3 <;> simp_all
    rw [he, e3, Bool.false_or, Bool.false_or, Bool.and_eq_true] at h
    refine ⟨fun e => ?_, fun i hi => ?_⟩
    · rw [e] at h; simp at h
    · have h2 := List.all_eq_true.1 h.2 i hi
      simpa [or_assoc, and_assoc] using h2
  refine wpAnyH_inv (m := 2) St7.L A R St7.n ?_ ?_ ?_ 4 ⟨false, false, false, false, x1, x3, x4, x5⟩ w _ a rfl rfl ha hR
  · rintro ⟨l1, l3, l4, l5, y1, y3, y4, y5⟩ w hR hn
    refine (hmem l1 l3 l4 l5 ?_ (hord _ _ hR)).1
    clear hR
    revert hn
    cases l1 <;> cases l3 <;> cases l4 <;> cases l5 <;> simp [St7.n]
  · intro s w hR hn i hi
    have hm := (hmem s.l1 s.l3 s.l4 s.l5 (by
      clear hR hi
      revert hn
      rcases s with ⟨l1, l3, l4, l5, y1, y3, y4, y5⟩
      cases l1 <;> cases l3 <;> cases l4 <;> cases l5 <;> simp [St7.n]) (hord _ _ hR)).2 i hi
    rcases hm with ⟨rfl, e⟩ | ⟨rfl, e, ee⟩ | ⟨rfl, e⟩ | ⟨rfl, e⟩
    · refine wpOp_mono (fun a' w' h => ?_) (h1 s w hR)
      obtain ⟨x, k1, k2, k3⟩ := h
      exact ⟨_, by simp [St7.n, e]; omega, rfl, k1, k2, k3⟩
    · refine wpOp_mono (fun a' w' h => ?_) (h3 s w hR ee)
      obtain ⟨x, k1, k2, k3⟩ := h
      exact ⟨_, by simp [St7.n, e]; omega, rfl, k1, k2, k3⟩
    · refine wpOp_mono (fun a' w' h => ?_) (h4 s w hR)
      obtain ⟨x, k1, k2, k3⟩ := h
      exact ⟨_, by simp [St7.n, e]; omega, rfl, k1, k2, k3⟩
    · refine wpOp_mono (fun a' w' h => ?_) (h5 s w hR)
      obtain ⟨x, k1, k2, k3⟩ := h
      exact ⟨_, by simp [St7.n, e], rfl, k1, k2, k3⟩
  · rintro ⟨l1, l3, l4, l5, y1, y3, y4, y5⟩ w hR hn
    have : l1 = true ∧ l3 = true ∧ l4 = true ∧ l5 = true := by
      revert hn
      cases l1 <;> cases l3 <;> cases l4 <;> cases l5 <;> simp [St7.n]
    obtain ⟨rfl, rfl, rfl, rfl⟩ := this
    exact hdone _ _ _ _ w hR
end Go.Proofs.YtpdoepjnkgffpaaDoor
