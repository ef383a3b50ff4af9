/- A region that draws its order, by an invariant: what has come up has its value. -/
import Derived.Test.YtccogdlmlegmbaaBigOpen
namespace Go.Proofs.Ytccogdlmlegmbaa
open Go.ChangeShapes Go.WideShapes Go.ChangeAt Go.ChangeMaps Go.RowKit
set_option linter.unusedSimpArgs false
set_option linter.unusedVariables false
theorem wpAnyH_inv {σ : Type} {P : Program} {md : Region.Mode} {ops : Array Oper} {Q : Exit → Act → World → Prop} {S : World → Prop} {m : Nat} (L : σ → Array Bool) (A : σ → Act) (R : σ → World → Prop) (n : σ → Nat)
    (hne : ∀ s w, R s w → n s ≠ 0 → Region.ready md ops (L s) ≠ [])
    (hstep : ∀ s w, R s w → n s ≠ 0 → ∀ i ∈ Region.ready md ops (L s), wpOp P ops Q i (fun a' w' => ∃ s', n s = n s' + 1 ∧ L s' = (L s).setIfInBounds i true ∧ a' = A s' ∧ R s' w' ∧ S w') (A s) w)
    (hdone : ∀ s w, R s w → n s = 0 → wpAnyH P md ops Q S m (L s) (A s) w) :
    ∀ (k : Nat) (s : σ) (w : World) (listed : Array Bool) (a : Act), n s = k → listed = L s → a = A s → R s w → wpAnyH P md ops Q S (m + k) listed a w := by
  intro k
  induction k with
  | zero =>
    intro s w listed a hn hl ha hR
    subst hl ha
    exact hdone s w hR hn
  | succ k ih =>
    intro s w listed a hn hl ha hR
    subst hl ha
    refine ⟨fun h0 => absurd h0 (hne s w hR (by omega)), fun i hi => ?_⟩
    refine wpOp_mono (fun a' w' h => ?_) (hstep s w hR (by omega) i hi)
    obtain ⟨s', h1, h2, h3, h4, h5⟩ := h
    exact ⟨h5, ih s' w' _ _ (by omega) h2.symm h3 h4⟩
theorem below_and' {N : Nat} {w w' w'' : World} (h : Below N w w') (hN : N ≤ w'.heap.size) (h' : Below w'.heap.size w' w'') : Below N w w'' := h.trans (below_le h' hN)
/-- a variable of two cells, new, at a place of the call's own -/
def NewBox (N : Nat) (x u v : Value) (w : World) : Prop := ∃ g, x = .pointer (some ⟨g, 0, none⟩) ∧ N ≤ g ∧ g < w.heap.size ∧ Box g u v w
theorem NewBox.below {N : Nat} {x u v : Value} {w w' : World} (h : NewBox N x u v w) (hb : Below w.heap.size w w') : NewBox N x u v w' := by
  obtain ⟨g, rfl, h1, h2, h3⟩ := h
  exact ⟨g, rfl, h1, Nat.lt_of_lt_of_le h2 hb.size, h3.below hb h2⟩
theorem NewBox.new {N : Nat} (u v : Value) (w : World) (t : TypeId) (hN : N ≤ w.heap.size) : NewBox N (.pointer (some ⟨w.heap.size, 0, none⟩)) u v (w.alloc (.cells #[u, v] t)) :=
  ⟨w.heap.size, rfl, hN, by simp, Box.new w u v t⟩
theorem NewBox.ne {N : Nat} {x u v : Value} {w : World} (h : NewBox N x u v w) : x ≠ .pointer (some ⟨w.heap.size, 0, none⟩) := by
  obtain ⟨g, rfl, _, h2, _⟩ := h
  intro e
  simp only [Value.pointer.injEq, Option.some.injEq, Addr.mk.injEq, and_true] at e
  omega
/-- three calls in a row beside three variables that are made at any time: what has come up -/
structure St3 where
  l1 : Bool
  l3 : Bool
  l5 : Bool
  l6 : Bool
  l7 : Bool
  l8 : Bool
  x1 : Value
  x3 : Value
  x5 : Value
  x6 : Value
  x7 : Value
  x8 : Value
def St3.L (s : St3) : Array Bool := #[true, s.l1, true, s.l3, true, s.l5, s.l6, s.l7, s.l8, false, false, false]
def St3.n (s : St3) : Nat := (!s.l1).toNat + (!s.l3).toNat + (!s.l5).toNat + (!s.l6).toNat + (!s.l7).toNat + (!s.l8).toNat
structure R3 (N : Nat) (W : World) (va vb vc z0 z1 : Value) (s : St3) (w : World) : Prop where
  bel : Below N W w
  size : N ≤ w.heap.size
  o3 : s.l3 = true → s.l1 = true
  o5 : s.l5 = true → s.l3 = true
  h1 : s.l1 = true → s.x1 = va
  h3 : s.l3 = true → s.x3 = vb
  h5 : s.l5 = true → s.x5 = vc
  h6 : s.l6 = true → NewBox N s.x6 z0 z1 w
  h7 : s.l7 = true → NewBox N s.x7 z0 z1 w
  h8 : s.l8 = true → NewBox N s.x8 z0 z1 w
  h67 : s.l6 = true → s.l7 = true → s.x6 ≠ s.x7
  h68 : s.l6 = true → s.l8 = true → s.x6 ≠ s.x8
  h78 : s.l7 = true → s.l8 = true → s.x7 ≠ s.x8
theorem R3.on {N : Nat} {W : World} {va vb vc z0 z1 : Value} {s : St3} {w w' : World} (h : R3 N W va vb vc z0 z1 s w) (hb : Below w.heap.size w w') : R3 N W va vb vc z0 z1 s w' :=
  ⟨below_and' h.bel h.size hb, Nat.le_trans h.size hb.size, h.o3, h.o5, h.h1, h.h3, h.h5, fun e => (h.h6 e).below hb, fun e => (h.h7 e).below hb, fun e => (h.h8 e).below hb, h.h67, h.h68, h.h78⟩
theorem R3.c1 {N : Nat} {W : World} {va vb vc z0 z1 : Value} {s : St3} {w w' : World} (h : R3 N W va vb vc z0 z1 s w) (hb : Below w.heap.size w w') : R3 N W va vb vc z0 z1 { s with l1 := true, x1 := va } w' := by
  have k := h.on hb
  exact ⟨k.bel, k.size, fun _ => rfl, k.o5, fun _ => rfl, k.h3, k.h5, k.h6, k.h7, k.h8, k.h67, k.h68, k.h78⟩
theorem R3.c3 {N : Nat} {W : World} {va vb vc z0 z1 : Value} {s : St3} {w w' : World} (h : R3 N W va vb vc z0 z1 s w) (he : s.l1 = true) (hb : Below w.heap.size w w') : R3 N W va vb vc z0 z1 { s with l3 := true, x3 := vb } w' := by
  have k := h.on hb
  exact ⟨k.bel, k.size, fun _ => he, fun _ => rfl, k.h1, fun _ => rfl, k.h5, k.h6, k.h7, k.h8, k.h67, k.h68, k.h78⟩
theorem R3.c5 {N : Nat} {W : World} {va vb vc z0 z1 : Value} {s : St3} {w w' : World} (h : R3 N W va vb vc z0 z1 s w) (he : s.l3 = true) (hb : Below w.heap.size w w') : R3 N W va vb vc z0 z1 { s with l5 := true, x5 := vc } w' := by
  have k := h.on hb
  exact ⟨k.bel, k.size, k.o3, fun _ => he, k.h1, k.h3, fun _ => rfl, k.h6, k.h7, k.h8, k.h67, k.h68, k.h78⟩
theorem R3.n6 {N : Nat} {W : World} {va vb vc z0 z1 : Value} {s : St3} {w : World} (t : TypeId) (h : R3 N W va vb vc z0 z1 s w) : R3 N W va vb vc z0 z1 { s with l6 := true, x6 := .pointer (some ⟨w.heap.size, 0, none⟩) } (w.alloc (.cells #[z0, z1] t)) := by
  have k := h.on ((Below.refl w.heap.size w).alloc (Nat.le_refl _) (.cells #[z0, z1] t))
  exact ⟨k.bel, k.size, k.o3, k.o5, k.h1, k.h3, k.h5, fun _ => NewBox.new z0 z1 w t h.size, k.h7, k.h8, fun _ e => (h.h7 e).ne.symm, fun _ e => (h.h8 e).ne.symm, k.h78⟩
theorem R3.n7 {N : Nat} {W : World} {va vb vc z0 z1 : Value} {s : St3} {w : World} (t : TypeId) (h : R3 N W va vb vc z0 z1 s w) : R3 N W va vb vc z0 z1 { s with l7 := true, x7 := .pointer (some ⟨w.heap.size, 0, none⟩) } (w.alloc (.cells #[z0, z1] t)) := by
  have k := h.on ((Below.refl w.heap.size w).alloc (Nat.le_refl _) (.cells #[z0, z1] t))
  exact ⟨k.bel, k.size, k.o3, k.o5, k.h1, k.h3, k.h5, k.h6, fun _ => NewBox.new z0 z1 w t h.size, k.h8, fun e _ => (h.h6 e).ne, k.h68, fun _ e => (h.h8 e).ne.symm⟩
theorem R3.n8 {N : Nat} {W : World} {va vb vc z0 z1 : Value} {s : St3} {w : World} (t : TypeId) (h : R3 N W va vb vc z0 z1 s w) : R3 N W va vb vc z0 z1 { s with l8 := true, x8 := .pointer (some ⟨w.heap.size, 0, none⟩) } (w.alloc (.cells #[z0, z1] t)) := by
  have k := h.on ((Below.refl w.heap.size w).alloc (Nat.le_refl _) (.cells #[z0, z1] t))
  exact ⟨k.bel, k.size, k.o3, k.o5, k.h1, k.h3, k.h5, k.h6, k.h7, fun _ => NewBox.new z0 z1 w t h.size, k.h67, fun e _ => (h.h6 e).ne, fun e _ => (h.h7 e).ne⟩
def bAll (f : Bool → Bool) : Bool := f false && f true
theorem bAll_spec {f : Bool → Bool} (h : bAll f = true) (b : Bool) : f b = true := by
  unfold bAll at h
  rw [Bool.and_eq_true] at h
  cases b
  · exact h.1
  · exact h.2
theorem wpAnyH_inv3 {P : Program} {md : Region.Mode} {ops : Array Oper} {Q : Exit → Act → World → Prop} {S : World → Prop} (A : St3 → Act) (R : St3 → World → Prop)
    (hmem0 : (bAll fun l1 => bAll fun l3 => bAll fun l5 => bAll fun l6 => bAll fun l7 => bAll fun l8 => (l1 && l3 && l5 && l6 && l7 && l8) || (l3 && !l1) || (l5 && !l3) || (!(Region.ready md ops #[true, l1, true, l3, true, l5, l6, l7, l8, false, false, false]).isEmpty && (Region.ready md ops #[true, l1, true, l3, true, l5, l6, l7, l8, false, false, false]).all fun i => (i == 1 && !l1) || (i == 3 && !l3 && l1) || (i == 5 && !l5 && l3) || (i == 6 && !l6) || (i == 7 && !l7) || (i == 8 && !l8))) = true)
    (hord : ∀ s w, R s w → (s.l3 = true → s.l1 = true) ∧ (s.l5 = true → s.l3 = true))
    (h1 : ∀ s w, R s w → wpOp P ops Q 1 (fun a' w' => ∃ x, a' = A { s with l1 := true, x1 := x } ∧ R { s with l1 := true, x1 := x } w' ∧ S w') (A s) w)
    (h3 : ∀ s w, R s w → s.l1 = true → wpOp P ops Q 3 (fun a' w' => ∃ x, a' = A { s with l3 := true, x3 := x } ∧ R { s with l3 := true, x3 := x } w' ∧ S w') (A s) w)
    (h5 : ∀ s w, R s w → s.l3 = true → wpOp P ops Q 5 (fun a' w' => ∃ x, a' = A { s with l5 := true, x5 := x } ∧ R { s with l5 := true, x5 := x } w' ∧ S w') (A s) w)
    (h6 : ∀ s w, R s w → wpOp P ops Q 6 (fun a' w' => ∃ x, a' = A { s with l6 := true, x6 := x } ∧ R { s with l6 := true, x6 := x } w' ∧ S w') (A s) w)
    (h7 : ∀ s w, R s w → wpOp P ops Q 7 (fun a' w' => ∃ x, a' = A { s with l7 := true, x7 := x } ∧ R { s with l7 := true, x7 := x } w' ∧ S w') (A s) w)
    (h8 : ∀ s w, R s w → wpOp P ops Q 8 (fun a' w' => ∃ x, a' = A { s with l8 := true, x8 := x } ∧ R { s with l8 := true, x8 := x } w' ∧ S w') (A s) w)
    (hdone : ∀ (x1 x3 x5 x6 x7 x8 : Value) w, R ⟨true, true, true, true, true, true, x1, x3, x5, x6, x7, x8⟩ w → wpAnyH P md ops Q S 3 #[true, true, true, true, true, true, true, true, true, false, false, false] (A ⟨true, true, true, true, true, true, x1, x3, x5, x6, x7, x8⟩) w)
    (w : World) (a : Act) (x1 x3 x5 x6 x7 x8 : Value) (ha : a = A ⟨false, false, false, false, false, false, x1, x3, x5, x6, x7, x8⟩) (hR : R ⟨false, false, false, false, false, false, x1, x3, x5, x6, x7, x8⟩ w) :
    wpAnyH P md ops Q S 9 #[true, false, true, false, true, false, false, false, false, false, false, false] a w := by
  have hmem : ∀ l1 l3 l5 l6 l7 l8 : Bool, (l1 && l3 && l5 && l6 && l7 && l8) = false → (l3 = true → l1 = true) → (l5 = true → l3 = true) → Region.ready md ops #[true, l1, true, l3, true, l5, l6, l7, l8, false, false, false] ≠ [] ∧ ∀ i ∈ Region.ready md ops #[true, l1, true, l3, true, l5, l6, l7, l8, false, false, false], (i = 1 ∧ l1 = false) ∨ (i = 3 ∧ l3 = false ∧ l1 = true) ∨ (i = 5 ∧ l5 = false ∧ l3 = true) ∨ (i = 6 ∧ l6 = false) ∨ (i = 7 ∧ l7 = false) ∨ (i = 8 ∧ l8 = false) := by
    intro l1 l3 l5 l6 l7 l8 he e1 e2
    have h := bAll_spec (bAll_spec (bAll_spec (bAll_spec (bAll_spec (bAll_spec hmem0 l1) l3) l5) l6) l7) l8
    have e3 : (l3 && !l1) = false := by cases l3 <;> simp_all
    have e4 : (l5 && !l3) = false := by cases l5 <;> simp_all
    rw [he, e3, e4, Bool.false_or, Bool.false_or, Bool.false_or, Bool.and_eq_true] at h
    refine ⟨fun e => ?_, fun i hi => ?_⟩
    · rw [e] at h; simp at h
    · have h2 := List.all_eq_true.1 h.2 i hi
      simpa [or_assoc, and_assoc] using h2
  refine wpAnyH_inv (m := 3) St3.L A R St3.n ?_ ?_ ?_ 6 ⟨false, false, false, false, false, false, x1, x3, x5, x6, x7, x8⟩ w _ a rfl rfl ha hR
  · rintro ⟨l1, l3, l5, l6, l7, l8, y1, y3, y5, y6, y7, y8⟩ w hR hn
    refine (hmem l1 l3 l5 l6 l7 l8 ?_ (hord _ _ hR).1 (hord _ _ hR).2).1
    clear hR
    revert hn
    cases l1 <;> cases l3 <;> cases l5 <;> cases l6 <;> cases l7 <;> cases l8 <;> simp [St3.n]
  · intro s w hR hn i hi
    have hm := (hmem s.l1 s.l3 s.l5 s.l6 s.l7 s.l8 (by
      clear hR hi
      revert hn
      rcases s with ⟨l1, l3, l5, l6, l7, l8, y1, y3, y5, y6, y7, y8⟩
      cases l1 <;> cases l3 <;> cases l5 <;> cases l6 <;> cases l7 <;> cases l8 <;> simp [St3.n]) (hord _ _ hR).1 (hord _ _ hR).2).2 i hi
    rcases hm with ⟨rfl, e⟩ | ⟨rfl, e, ee⟩ | ⟨rfl, e, ee⟩ | ⟨rfl, e⟩ | ⟨rfl, e⟩ | ⟨rfl, e⟩
    · refine wpOp_mono (fun a' w' h => ?_) (h1 s w hR)
      obtain ⟨x, k1, k2, k3⟩ := h
      exact ⟨_, by simp [St3.n, e]; omega, rfl, k1, k2, k3⟩
    · refine wpOp_mono (fun a' w' h => ?_) (h3 s w hR ee)
      obtain ⟨x, k1, k2, k3⟩ := h
      exact ⟨_, by simp [St3.n, e]; omega, rfl, k1, k2, k3⟩
    · refine wpOp_mono (fun a' w' h => ?_) (h5 s w hR ee)
      obtain ⟨x, k1, k2, k3⟩ := h
      exact ⟨_, by simp [St3.n, e]; omega, rfl, k1, k2, k3⟩
    · refine wpOp_mono (fun a' w' h => ?_) (h6 s w hR)
      obtain ⟨x, k1, k2, k3⟩ := h
      exact ⟨_, by simp [St3.n, e]; omega, rfl, k1, k2, k3⟩
    · refine wpOp_mono (fun a' w' h => ?_) (h7 s w hR)
      obtain ⟨x, k1, k2, k3⟩ := h
      exact ⟨_, by simp [St3.n, e]; omega, rfl, k1, k2, k3⟩
    · refine wpOp_mono (fun a' w' h => ?_) (h8 s w hR)
      obtain ⟨x, k1, k2, k3⟩ := h
      exact ⟨_, by simp [St3.n, e], rfl, k1, k2, k3⟩
  · rintro ⟨l1, l3, l5, l6, l7, l8, y1, y3, y5, y6, y7, y8⟩ w hR hn
    have : l1 = true ∧ l3 = true ∧ l5 = true ∧ l6 = true ∧ l7 = true ∧ l8 = true := by
      revert hn
      cases l1 <;> cases l3 <;> cases l5 <;> cases l6 <;> cases l7 <;> cases l8 <;> simp [St3.n]
    obtain ⟨rfl, rfl, rfl, rfl, rfl, rfl⟩ := this
    exact hdone _ _ _ _ _ _ w hR
theorem wpAnyH_name {P : Program} {md : Region.Mode} {ops : Array Oper} {Q : Exit → Act → World → Prop} {S : World → Prop} {m : Nat} {listed : Array Bool} {a : Act} {w : World} (h : ∀ a0, a0 = a → wpAnyH P md ops Q S m listed a0 w) : wpAnyH P md ops Q S m listed a w := h a rfl
theorem wpAnyH_at {P : Program} {md : Region.Mode} {ops : Array Oper} {Q : Exit → Act → World → Prop} {S : World → Prop} {m m' : Nat} {listed listed' : Array Bool} {a : Act} {w : World} (hm : m = m') (hl : listed = listed') (h : wpAnyH P md ops Q S m' listed' a w) : wpAnyH P md ops Q S m listed a w := by
  subst hm hl; exact h
theorem IsC.shape {v : Value} {Z : Int} {K : Nat} {w : World} (h : IsC v Z K w) : ∃ b o n c, v = .agg #[.bool b, .slice o n c] := by
  obtain ⟨o, c, rfl, _⟩ := h
  exact ⟨_, _, _, _, rfl⟩
theorem IsC.parts {b : Bool} {o : Option Addr} {n c : Nat} {Z : Int} {K : Nat} {w : World} (h : IsC (.agg #[.bool b, .slice o n c]) Z K w) : b = decide (Z < 0) ∧ n = (glim 4294967296 Z.natAbs).length := by
  obtain ⟨o', c', e, _⟩ := h
  simp only [Value.agg.injEq, Array.mk.injEq, List.cons.injEq, Value.bool.injEq, Value.slice.injEq, and_true] at e
  exact ⟨e.1, e.2.2.1⟩
theorem newbox (w : World) (u v : Value) (t : TypeId) : Box w.heap.size u v (w.alloc (.cells #[u, v] t)) ∧ Below w.heap.size w (w.alloc (.cells #[u, v] t)) ∧ (w.alloc (.cells #[u, v] t)).heap.size = w.heap.size + 1 :=
  ⟨Box.new w u v t, (Below.refl _ _).alloc (Nat.le_refl _) _, by simp⟩
theorem Box.lt {g : Nat} {u v : Value} {w : World} (h : Box g u v w) : g < w.heap.size := World.block_lt_of_cell? _ _ h.1
theorem cmpZ_swap (x y : Int) : -cmpZ y x = cmpZ x y := by
  simp only [cmpZ]
  split <;> split <;> (try split) <;> omega
theorem natAbs_lt_of {b : Bool} {l : List Nat} {k : Nat} (hm : Lm 4294967296 l) (hl : l.length ≤ k) : (sv b (gval 4294967296 l)).natAbs < 4294967296 ^ k := by
  have h1 := gval_lt hm
  have h2 : (4294967296 : Nat) ^ l.length ≤ 4294967296 ^ k := Nat.pow_le_pow_right (by omega) hl
  have h3 : (sv b (gval 4294967296 l)).natAbs = gval 4294967296 l := by unfold sv; cases b <;> simp
  omega
theorem natAbs_add_lt {Y Z : Int} (hY : Y.natAbs < 4294967296 ^ 40) (hZ : Z.natAbs < 4294967296 ^ 40) : (Y + Z).natAbs < 4294967296 ^ 41 := by
  have h1 : (4294967296 : Nat) ^ 41 = 4294967296 ^ 40 * 4294967296 := Nat.pow_succ _ _
  rw [h1]
  generalize (4294967296 : Nat) ^ 40 = P at *
  have h2 := Int.natAbs_add_le Y Z
  omega
theorem cmpZ_bd (x y : Int) : -1 ≤ cmpZ x y ∧ cmpZ x y ≤ 1 := by
  simp only [cmpZ]
  split <;> (try split) <;> omega
theorem IsN.abs {b : Bool} {sl : Value} {Z : Int} {K : Nat} {w : World} (h : IsN (.agg #[.bool b, sl]) Z K w) : IsN (.agg #[.bool false, sl]) (Z.natAbs : Int) K w := by
  obtain ⟨neg, o, l, c, e, hL, hc, hm, hs, hk⟩ := h
  simp only [Value.agg.injEq, Array.mk.injEq, List.cons.injEq, Value.bool.injEq, and_true] at e
  obtain ⟨rfl, rfl⟩ := e
  refine ⟨false, o, l, c, rfl, hL, hc, hm, ?_, hk⟩
  subst hs
  unfold sv
  cases b <;> simp
theorem field25 (b : Bool) (o : Option Addr) (n c : Nat) (w : World) : (Instr.field 25 (.agg #[.bool b, .slice o n c]) 0).run Try.prog w = .ok (.bool b) w := by
  have ht := run_underlying (P := Try.prog) Try.underlying25
  have ht2 := run_underlying (P := Try.prog) Try.underlying4
  simp [Instr.field, ht, asAgg, part, isAgg, ht2, go_sem]
theorem tdiv_lt {X Y : Int} {k : Nat} (h : X.natAbs < 4294967296 ^ k) : (X.tdiv Y).natAbs < 4294967296 ^ k := Nat.lt_of_le_of_lt (Int.natAbs_tdiv_le_natAbs X Y) h
theorem div_back (X Y : Int) : X.tdiv Y * Y + X.tmod Y = X := by
  rw [Int.mul_comm]; exact Int.mul_tdiv_add_tmod X Y
theorem mod_small {X Y : Int} (h : Y ≠ 0) : cmpZ ((X.tmod Y).natAbs : Int) (Y.natAbs : Int) = -1 := by
  apply cmpZ_lt
  rw [Int.natAbs_tmod]
  have := Nat.mod_lt X.natAbs (show 0 < Y.natAbs by omega)
  omega
theorem mod_sign {X Y : Int} (h : X.tmod Y ≠ 0) : decide (X.tmod Y < 0) = decide (X < 0) := by
  by_cases hx : X < 0
  · have h1 : (-X).tmod Y = -(X.tmod Y) := Int.neg_tmod X Y
    have h2 := Int.tmod_nonneg (a := -X) Y (by omega)
    simp only [hx, decide_true, decide_eq_true_eq]
    omega
  · have h2 := Int.tmod_nonneg (a := X) Y (by omega)
    simp only [hx, decide_false, decide_eq_false_iff_not]
    omega
theorem glim_len0 {Z : Int} : ((glim 4294967296 Z.natAbs).length : Int) = 0 ↔ Z = 0 := by
  constructor
  · intro h
    by_cases hz : Z = 0
    · exact hz
    · have := List.length_pos_iff.2 (glim_ne (b := 4294967296) (n := Z.natAbs) (by omega) (by omega))
      omega
  · intro h; subst h; simp [glim_zero]
theorem num_w (b : Bool) (o : Option Addr) (n c : Nat) (w : World) : Calls Try.prog 15 #[.agg #[.bool b, .slice o n c]] w fun e w' => e = .returned (.agg #[.bool b, .slice o n c]) ∧ Below w.heap.size w w' := by
  go_enter Try.func15, Try.ntmps15
  go_wp2
  exact bodyPost_ret (v := .agg #[.bool b, .slice o n c]) (by simp [results, Try.results15, go_sem]) rfl ⟨rfl, ((Below.refl _ w).alloc (Nat.le_refl _) _).alloc (by simp) _⟩
theorem field34 (b : Bool) (o : Option Addr) (n c : Nat) (w : World) : (Instr.field 34 (.agg #[.bool b, .slice o n c]) 1).run Try.prog w = .ok (.slice o n c) w := by
  have ht := run_underlying (P := Try.prog) Try.underlying34
  have ht2 := run_underlying (P := Try.prog) Try.underlying23
  simp [Instr.field, ht, asAgg, part, isAgg, ht2, go_sem]
end Go.Proofs.Ytccogdlmlegmbaa
