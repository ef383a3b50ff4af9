/- A row's beginning: a load, a cut, two rows that are made, a pair and its row, in whatever order. -/
import Derived.Test.YtpdoepjnkgffpaaDoorOrdNext
import Derived.Test.YtpdoepjnkgffpaaDoorTermBigA
namespace Go.Proofs.YtpdoepjnkgffpaaDoor
open Go.ChangeShapes Go.WideShapes Go.ChangeAt Go.ChangeMaps Go.RowKit
set_option linter.unusedSimpArgs false
set_option linter.unusedVariables false
set_option maxRecDepth 2000
structure St9 where
  l1 : Bool
  l3 : Bool
  l4 : Bool
  l5 : Bool
  l6 : Bool
  l7 : Bool
  x1 : Value
  x3 : Value
  x4 : Value
  x5 : Value
  x6 : Value
  x7 : Value
def St9.L (s : St9) : Array Bool := #[true, true, true, true, s.l1, s.l3, true, s.l4, true, s.l5, s.l6, s.l7, false, false, false, false]
def St9.n (s : St9) : Nat := (!s.l1).toNat + (!s.l3).toNat + (!s.l4).toNat + (!s.l5).toNat + (!s.l6).toNat + (!s.l7).toNat
def St9.ok (s : St9) : Bool := (!s.l3 || s.l1) && (!s.l6 || (s.l4 && s.l5)) && (!s.l7 || s.l6)
structure R9 (W : World) (va vs : Value) (ca cb : Array Value) (s : St9) (w : World) : Prop where
  bel : Below W.heap.size W w
  ok : s.ok = true
  h1 : s.l1 = true → s.x1 = va
  h3 : s.l3 = true → s.x3 = vs
  h4 : s.l4 = true → ∃ g, s.x4 = .slice (some ⟨g, 0, none⟩) 1 1 ∧ W.heap.size ≤ g ∧ w.heap[g]? = some (.cells ca 31 (0, 0))
  h5 : s.l5 = true → ∃ g, s.x5 = .slice (some ⟨g, 0, none⟩) 1 1 ∧ W.heap.size ≤ g ∧ w.heap[g]? = some (.cells cb 31 (0, 0))
  h6 : s.l6 = true → s.x6 = .agg #[s.x4, s.x5]
  h7 : s.l7 = true → ∃ g, s.x7 = .slice (some ⟨g, 0, none⟩) 1 1 ∧ W.heap.size ≤ g ∧ w.heap[g]? = some (.cells #[s.x4, s.x5] 63 (0, 0))
theorem blk_on {g : Nat} {o : Obj} {w w' : World} (h : w.heap[g]? = some o) (hb : Below w.heap.size w w') : w'.heap[g]? = some o := (hb.block g (Array.getElem?_eq_some_iff.1 h).1).trans h
theorem R9.on {W : World} {va vs : Value} {ca cb : Array Value} {s : St9} {w w' : World} (h : R9 W va vs ca cb s w) (hb : Below w.heap.size w w') : R9 W va vs ca cb s w' :=
  ⟨below_and' h.bel h.bel.size hb, h.ok, h.h1, h.h3, fun e => by
    obtain ⟨g, h1, h2, h3⟩ := h.h4 e
    exact ⟨g, h1, h2, blk_on h3 hb⟩, fun e => by
    obtain ⟨g, h1, h2, h3⟩ := h.h5 e
    exact ⟨g, h1, h2, blk_on h3 hb⟩, h.h6, fun e => by
    obtain ⟨g, h1, h2, h3⟩ := h.h7 e
    exact ⟨g, h1, h2, blk_on h3 hb⟩⟩
theorem R9.c1 {W : World} {va vs : Value} {ca cb : Array Value} {s : St9} {w : World} (h : R9 W va vs ca cb s w) : R9 W va vs ca cb { s with l1 := true, x1 := va } w := ⟨h.bel, by have := h.ok; simp [St9.ok] at this ⊢; exact ⟨this.1.2, this.2⟩, fun _ => rfl, h.h3, h.h4, h.h5, h.h6, h.h7⟩
theorem R9.c3 {W : World} {va vs : Value} {ca cb : Array Value} {s : St9} {w : World} (h : R9 W va vs ca cb s w) (he : s.l1 = true) : R9 W va vs ca cb { s with l3 := true, x3 := vs } w := ⟨h.bel, by have := h.ok; simp [St9.ok, he] at this ⊢; exact this, h.h1, fun _ => rfl, h.h4, h.h5, h.h6, h.h7⟩
theorem R9.n4 {W : World} {va vs : Value} {ca cb : Array Value} {s : St9} {w : World} (h : R9 W va vs ca cb s w) (h0 : s.l4 = false) : R9 W va vs ca cb { s with l4 := true, x4 := .slice (some ⟨w.heap.size, 0, none⟩) 1 1 } (w.alloc (.cells ca 31)) := by
  have k := h.on ((Below.refl w.heap.size w).alloc (Nat.le_refl _) (.cells ca 31))
  have hk := h.ok
  have q6 : s.l6 = false := by cases h6 : s.l6 <;> simp_all [St9.ok]
  have q7 : s.l7 = false := by cases h7 : s.l7 <;> simp_all [St9.ok]
  exact ⟨k.bel, by simp [St9.ok, q6, q7] at hk ⊢; exact hk, k.h1, k.h3, fun _ => ⟨_, rfl, h.bel.size, heap_alloc_new w _⟩, k.h5, fun e => by simp [q6] at e, fun e => by simp [q7] at e⟩
theorem R9.n5 {W : World} {va vs : Value} {ca cb : Array Value} {s : St9} {w : World} (h : R9 W va vs ca cb s w) (h0 : s.l5 = false) : R9 W va vs ca cb { s with l5 := true, x5 := .slice (some ⟨w.heap.size, 0, none⟩) 1 1 } (w.alloc (.cells cb 31)) := by
  have k := h.on ((Below.refl w.heap.size w).alloc (Nat.le_refl _) (.cells cb 31))
  have hk := h.ok
  have q6 : s.l6 = false := by cases h6 : s.l6 <;> simp_all [St9.ok]
  have q7 : s.l7 = false := by cases h7 : s.l7 <;> simp_all [St9.ok]
  exact ⟨k.bel, by simp [St9.ok, q6, q7] at hk ⊢; exact hk, k.h1, k.h3, k.h4, fun _ => ⟨_, rfl, h.bel.size, heap_alloc_new w _⟩, fun e => by simp [q6] at e, fun e => by simp [q7] at e⟩
theorem R9.c6 {W : World} {va vs : Value} {ca cb : Array Value} {s : St9} {w : World} (h : R9 W va vs ca cb s w) (e4 : s.l4 = true) (e5 : s.l5 = true) (h0 : s.l6 = false) : R9 W va vs ca cb { s with l6 := true, x6 := .agg #[s.x4, s.x5] } w := by
  have hk := h.ok
  exact ⟨h.bel, by simp [St9.ok, e4, e5, h0] at hk ⊢; exact hk.1, h.h1, h.h3, h.h4, h.h5, fun _ => rfl, h.h7⟩
theorem R9.n7 {W : World} {va vs : Value} {ca cb : Array Value} {s : St9} {w : World} (h : R9 W va vs ca cb s w) (e6 : s.l6 = true) : R9 W va vs ca cb { s with l7 := true, x7 := .slice (some ⟨w.heap.size, 0, none⟩) 1 1 } (w.alloc (.cells #[s.x4, s.x5] 63)) := by
  have k := h.on ((Below.refl w.heap.size w).alloc (Nat.le_refl _) (.cells #[s.x4, s.x5] 63))
  have hk := h.ok
  exact ⟨k.bel, by simp [St9.ok, e6] at hk ⊢; exact hk, k.h1, k.h3, k.h4, k.h5, k.h6, fun _ => ⟨_, rfl, h.bel.size, heap_alloc_new w _⟩⟩
theorem wpAnyH_inv9 {P : Program} {md : Region.Mode} {ops : Array Oper} {Q : Exit → Act → World → Prop} {S : World → Prop} (A : St9 → Act) (R : St9 → World → Prop)
    (hmem0 : (bAll fun l1 => bAll fun l3 => bAll fun l4 => bAll fun l5 => bAll fun l6 => bAll fun l7 => (l1 && l3 && l4 && l5 && l6 && l7) || (l3 && !l1) || (l6 && !(l4 && l5)) || (l7 && !l6) || (!(Region.ready md ops #[true, true, true, true, l1, l3, true, l4, true, l5, l6, l7, false, false, false, false]).isEmpty && (Region.ready md ops #[true, true, true, true, l1, l3, true, l4, true, l5, l6, l7, false, false, false, false]).all fun i => (i == 4 && !l1) || (i == 5 && !l3 && l1) || (i == 7 && !l4) || (i == 9 && !l5) || (i == 10 && !l6 && l4 && l5) || (i == 11 && !l7 && l6))) = true)
    (hord : ∀ s w, R s w → s.ok = true)
    (h4 : ∀ s w, R s w → s.l1 = false → wpOp P ops Q 4 (fun a' w' => ∃ x, a' = A { s with l1 := true, x1 := x } ∧ R { s with l1 := true, x1 := x } w' ∧ S w') (A s) w)
    (h5 : ∀ s w, R s w → s.l3 = false → s.l1 = true → wpOp P ops Q 5 (fun a' w' => ∃ x, a' = A { s with l3 := true, x3 := x } ∧ R { s with l3 := true, x3 := x } w' ∧ S w') (A s) w)
    (h7 : ∀ s w, R s w → s.l4 = false → wpOp P ops Q 7 (fun a' w' => ∃ x, a' = A { s with l4 := true, x4 := x } ∧ R { s with l4 := true, x4 := x } w' ∧ S w') (A s) w)
    (h9 : ∀ s w, R s w → s.l5 = false → wpOp P ops Q 9 (fun a' w' => ∃ x, a' = A { s with l5 := true, x5 := x } ∧ R { s with l5 := true, x5 := x } w' ∧ S w') (A s) w)
    (h10 : ∀ s w, R s w → s.l6 = false → s.l4 = true → s.l5 = true → wpOp P ops Q 10 (fun a' w' => ∃ x, a' = A { s with l6 := true, x6 := x } ∧ R { s with l6 := true, x6 := x } w' ∧ S w') (A s) w)
    (h11 : ∀ s w, R s w → s.l7 = false → s.l6 = true → wpOp P ops Q 11 (fun a' w' => ∃ x, a' = A { s with l7 := true, x7 := x } ∧ R { s with l7 := true, x7 := x } w' ∧ S w') (A s) w)
    (hdone : ∀ (x1 x3 x4 x5 x6 x7 : Value) w, R ⟨true, true, true, true, true, true, x1, x3, x4, x5, x6, x7⟩ w → wpAnyH P md ops Q S 4 #[true, true, true, true, true, true, true, true, true, true, true, true, false, false, false, false] (A ⟨true, true, true, true, true, true, x1, x3, x4, x5, x6, x7⟩) w)
    (w : World) (a : Act) (x1 x3 x4 x5 x6 x7 : Value) (ha : a = A ⟨false, false, false, false, false, false, x1, x3, x4, x5, x6, x7⟩) (hR : R ⟨false, false, false, false, false, false, x1, x3, x4, x5, x6, x7⟩ w) :
    wpAnyH P md ops Q S 10 #[true, true, true, true, false, false, true, false, true, false, false, false, false, false, false, false] a w := by
  have hmem : ∀ l1 l3 l4 l5 l6 l7 : Bool, (l1 && l3 && l4 && l5 && l6 && l7) = false → ((!l3 || l1) && (!l6 || (l4 && l5)) && (!l7 || l6)) = true → Region.ready md ops #[true, true, true, true, l1, l3, true, l4, true, l5, l6, l7, false, false, false, false] ≠ [] ∧ ∀ i ∈ Region.ready md ops #[true, true, true, true, l1, l3, true, l4, true, l5, l6, l7, false, false, false, false], (i = 4 ∧ l1 = false) ∨ (i = 5 ∧ l3 = false ∧ l1 = true) ∨ (i = 7 ∧ l4 = false) ∨ (i = 9 ∧ l5 = false) ∨ (i = 10 ∧ l6 = false ∧ l4 = true ∧ l5 = true) ∨ (i = 11 ∧ l7 = false ∧ l6 = true) := by
    intro l1 l3 l4 l5 l6 l7 he e1
    have h := bAll_spec (bAll_spec (bAll_spec (bAll_spec (bAll_spec (bAll_spec hmem0 l1) l3) l4) l5) l6) l7
    have e3 : ((l3 && !l1) || (l6 && !(l4 && l5)) || (l7 && !l6)) = false := by revert e1; cases l1 <;> cases l3 <;> cases l4 <;> cases l5 <;> cases l6 <;> cases l7 <;> decide
    obtain ⟨r, hr⟩ : ∃ r, Region.ready md ops #[true, true, true, true, l1, l3, true, l4, true, l5, l6, l7, false, false, false, false] = r := ⟨_, rfl⟩
    rw [hr] at h ⊢
    have e4 : (l3 && !l1) = false := by revert e3; cases (l3 && !l1) <;> simp
    have e5 : (l6 && !(l4 && l5)) = false := by revert e3; cases (l6 && !(l4 && l5)) <;> simp
    have e6 : (l7 && !l6) = false := by revert e3; cases (l7 && !l6) <;> simp
    rw [he, e4, e5, e6, Bool.false_or, Bool.false_or, Bool.false_or, Bool.false_or, Bool.and_eq_true] at h
    refine ⟨fun e => ?_, fun i hi => ?_⟩
    · rw [e] at h; simp at h
    · have h2 := List.all_eq_true.1 h.2 i hi
      simpa [or_assoc, and_assoc] using h2
  refine wpAnyH_inv (m := 4) St9.L A R St9.n ?_ ?_ ?_ 6 ⟨false, false, false, false, false, false, x1, x3, x4, x5, x6, x7⟩ w _ a rfl rfl ha hR
  · rintro ⟨l1, l3, l4, l5, l6, l7, y1, y3, y4, y5, y6, y7⟩ w hR hn
    refine (hmem l1 l3 l4 l5 l6 l7 ?_ (hord _ _ hR)).1
    clear hR
    revert hn
    cases l1 <;> cases l3 <;> cases l4 <;> cases l5 <;> cases l6 <;> cases l7 <;> simp [St9.n]
  · intro s w hR hn i hi
    have hm := (hmem s.l1 s.l3 s.l4 s.l5 s.l6 s.l7 (by
      clear hR hi
      revert hn
      rcases s with ⟨l1, l3, l4, l5, l6, l7, y1, y3, y4, y5, y6, y7⟩
      cases l1 <;> cases l3 <;> cases l4 <;> cases l5 <;> cases l6 <;> cases l7 <;> simp [St9.n]) (hord _ _ hR)).2 i hi
    rcases hm with ⟨rfl, e⟩ | ⟨rfl, e, ee⟩ | ⟨rfl, e⟩ | ⟨rfl, e⟩ | ⟨rfl, e, ee, ef⟩ | ⟨rfl, e, ee⟩
    · refine wpOp_mono (fun a' w' h => ?_) (h4 s w hR e)
      obtain ⟨x, k1, k2, k3⟩ := h
      exact ⟨_, by simp [St9.n, e]; try omega, rfl, k1, k2, k3⟩
    · refine wpOp_mono (fun a' w' h => ?_) (h5 s w hR e ee)
      obtain ⟨x, k1, k2, k3⟩ := h
      exact ⟨_, by simp [St9.n, e]; try omega, rfl, k1, k2, k3⟩
    · refine wpOp_mono (fun a' w' h => ?_) (h7 s w hR e)
      obtain ⟨x, k1, k2, k3⟩ := h
      exact ⟨_, by simp [St9.n, e]; try omega, rfl, k1, k2, k3⟩
    · refine wpOp_mono (fun a' w' h => ?_) (h9 s w hR e)
      obtain ⟨x, k1, k2, k3⟩ := h
      exact ⟨_, by simp [St9.n, e]; try omega, rfl, k1, k2, k3⟩
    · refine wpOp_mono (fun a' w' h => ?_) (h10 s w hR e ee ef)
      obtain ⟨x, k1, k2, k3⟩ := h
      exact ⟨_, by simp [St9.n, e]; try omega, rfl, k1, k2, k3⟩
    · refine wpOp_mono (fun a' w' h => ?_) (h11 s w hR e ee)
      obtain ⟨x, k1, k2, k3⟩ := h
      exact ⟨_, by simp [St9.n, e]; try omega, rfl, k1, k2, k3⟩
  · rintro ⟨l1, l3, l4, l5, l6, l7, y1, y3, y4, y5, y6, y7⟩ w hR hn
    have : l1 = true ∧ l3 = true ∧ l4 = true ∧ l5 = true ∧ l6 = true ∧ l7 = true := by
      revert hn
      cases l1 <;> cases l3 <;> cases l4 <;> cases l5 <;> cases l6 <;> cases l7 <;> simp [St9.n]
    obtain ⟨rfl, rfl, rfl, rfl, rfl, rfl⟩ := this
    exact hdone _ _ _ _ _ _ w hR
end Go.Proofs.YtpdoepjnkgffpaaDoor
