/- Add, Sub, Compare of package big. -/
import Derived.Test.YtddbndachoofoaaDoorBigSum
import Derived.Deep.RegionWith
import Derived.Deep.RegionHeld3
import Derived.Deep.CutRange
namespace Go.Proofs.YtddbndachoofoaaDoor
open Go.ChangeShapes Go.WideShapes Go.ChangeAt Go.RowKit
set_option linter.unusedSimpArgs false
set_option linter.unusedVariables false

theorem frozen_set (w : World) (p : Addr) (hp : p.spot = none) (v : Value) (a : Addr) : (w.setCell p v).frozen? a = w.frozen? a := by
  obtain ⟨g, o, sp⟩ := p
  simp only at hp; subst hp
  exact World.frozen?_setCells g [v] o w a
theorem Box.put {g : Nat} {u v u' v' : Value} {w : World} (h : Box g u v w) : Box g u' v' ((w.setCell ⟨g, 0, none⟩ u').setCell ⟨g, 1, none⟩ v') := by
  refine ⟨?_, ?_, ?_, ?_⟩
  · rw [World.cell?_setCell_other _ _ ⟨g, 0, none⟩ _ (by simp)]
    exact World.cell?_setCell_same _ _ _ h.1
  · refine World.cell?_setCell_same _ _ (u := v) _ ?_
    rw [World.cell?_setCell_other _ _ ⟨g, 1, none⟩ _ (by simp)]
    exact h.2.1
  · rw [frozen_set _ _ rfl, frozen_set _ _ rfl]; exact h.2.2.1
  · rw [frozen_set _ _ rfl, frozen_set _ _ rfl]; exact h.2.2.2
theorem Box.far {g k : Nat} {u v x y : Value} {w : World} (h : Box g u v w) (hne : g ≠ k) : Box g u v ((w.setCell ⟨k, 0, none⟩ x).setCell ⟨k, 1, none⟩ y) := by
  refine ⟨?_, ?_, ?_, ?_⟩
  · rw [World.cell?_setCell_other _ _ ⟨g, 0, none⟩ _ (by simp), World.cell?_setCell_other _ _ ⟨g, 0, none⟩ _ (by simp; try omega)]; exact h.1
  · rw [World.cell?_setCell_other _ _ ⟨g, 1, none⟩ _ (by simp; try omega), World.cell?_setCell_other _ _ ⟨g, 1, none⟩ _ (by simp)]; exact h.2.1
  · rw [frozen_set _ _ rfl, frozen_set _ _ rfl]; exact h.2.2.1
  · rw [frozen_set _ _ rfl, frozen_set _ _ rfl]; exact h.2.2.2
theorem Lies.set {o : Option Addr} {l : List Nat} {w : World} (h : Lies o l w) {p : Addr} {v : Value} (hp : w.cell? p = some v) (hv : ∀ n, v ≠ .int .u32 n) (x : Value) : Lies o l (w.setCell p x) := fun j y hy => by
  obtain ⟨a, ha, hc⟩ := h j y hy
  refine ⟨a, ha, ?_⟩
  rw [World.cell?_setCell_other _ _ _ _ (fun e => ?_)]
  · exact hc
  · rw [← e, hp] at hc
    injection hc with hc; exact hv _ hc
theorem Lies.box {o : Option Addr} {l : List Nat} {w : World} (h : Lies o l w) {g : Nat} {b : Bool} {o' : Option Addr} {n c : Nat} (hb : Box g (.bool b) (.slice o' n c) w) (x y : Value) : Lies o l ((w.setCell ⟨g, 0, none⟩ x).setCell ⟨g, 1, none⟩ y) := by
  refine (h.set hb.1 (fun _ => by simp) x).set (v := .slice o' n c) ?_ (fun _ => by simp) y
  rw [World.cell?_setCell_other _ _ ⟨g, 1, none⟩ _ (by simp)]
  exact hb.2.1
theorem IsC.box {v : Value} {Z : Int} {K : Nat} {w : World} (h : IsC v Z K w) {g : Nat} {b : Bool} {o' : Option Addr} {n c : Nat} (hb : Box g (.bool b) (.slice o' n c) w) {x y : Value} : IsC v Z K ((w.setCell ⟨g, 0, none⟩ x).setCell ⟨g, 1, none⟩ y) := by
  obtain ⟨o, c, rfl, hL, hc, hK⟩ := h
  exact ⟨o, c, rfl, hL.box hb x y, hc, hK⟩
/-- two Norms, laid where the parameters lay -/
def Two (X Y : Int) (K : Nat) (w wx : World) : Prop := ∃ o1 c1 o2 c2, Box w.heap.size (.bool (decide (X < 0))) (.slice o1 (glim 4294967296 X.natAbs).length c1) wx ∧ Box (w.heap.size + 1) (.bool (decide (Y < 0))) (.slice o2 (glim 4294967296 Y.natAbs).length c2) wx ∧ Lies o1 (glim 4294967296 X.natAbs) wx ∧ Lies o2 (glim 4294967296 Y.natAbs) wx ∧ (glim 4294967296 X.natAbs).length ≤ c1 ∧ (glim 4294967296 Y.natAbs).length ≤ c2 ∧ (glim 4294967296 X.natAbs).length ≤ K ∧ (glim 4294967296 Y.natAbs).length ≤ K
/-- what else there was is as it was -/
def After (w W0 wx : World) : Prop := (∀ g u v, w.heap.size + 2 ≤ g → g < W0.heap.size → Box g u v W0 → Box g u v wx) ∧ W0.heap.size ≤ wx.heap.size ∧ Below w.heap.size w wx
theorem after_put {w W0 w2 : World} {a0 a1 b0 b1 : Value} (hB0 : Below w.heap.size w W0) (hz : w.heap.size + 2 ≤ W0.heap.size) (hb : Below W0.heap.size W0 w2) :
    After w W0 ((((w2.setCell ⟨w.heap.size, 0, none⟩ a0).setCell ⟨w.heap.size, 1, none⟩ a1).setCell ⟨w.heap.size + 1, 0, none⟩ b0).setCell ⟨w.heap.size + 1, 1, none⟩ b1) := by
  refine ⟨fun g u v hg hgw h => ((h.below hb hgw).far (by omega)).far (by omega), ?_, ?_⟩
  · have := hb.size; simpa using this
  · exact (((((hB0.trans (below_le hb (by omega))).setCell (p := ⟨w.heap.size, 0, none⟩) (Nat.le_refl _) _).setCell (p := ⟨w.heap.size, 1, none⟩) (Nat.le_refl _) _).setCell (p := ⟨w.heap.size + 1, 0, none⟩) (by simp) _).setCell (p := ⟨w.heap.size + 1, 1, none⟩) (by simp) _)
theorem boxes_put {w W0 w2 : World} {a0 a1 b0 b1 x0 x1 y0 y1 : Value} (kA : Box w.heap.size x0 x1 W0) (kB : Box (w.heap.size + 1) y0 y1 W0) (hz : w.heap.size + 2 ≤ W0.heap.size) (hb : Below W0.heap.size W0 w2) :
    Box w.heap.size a0 a1 ((((w2.setCell ⟨w.heap.size, 0, none⟩ a0).setCell ⟨w.heap.size, 1, none⟩ a1).setCell ⟨w.heap.size + 1, 0, none⟩ b0).setCell ⟨w.heap.size + 1, 1, none⟩ b1) ∧ Box (w.heap.size + 1) b0 b1 ((((w2.setCell ⟨w.heap.size, 0, none⟩ a0).setCell ⟨w.heap.size, 1, none⟩ a1).setCell ⟨w.heap.size + 1, 0, none⟩ b0).setCell ⟨w.heap.size + 1, 1, none⟩ b1) :=
  ⟨((kA.below hb (by omega)).put).far (by omega), ((kB.below hb (by omega)).far (by omega)).put⟩
theorem Lies.drew {o : Option Addr} {l : List Nat} {w : World} (h : Lies o l w) : Lies o l w.drew := h
theorem below_of_drew {w w' : World} (h : Below w.drew.heap.size w.drew w') : Below w.heap.size w w' := ((Below.refl _ w).drew).trans h
theorem own_isN {g : Nat} {L : List Nat} {w : World} (s : Bool) {K n : Nat} (h : Own g L w) (hm : Lm 4294967296 L) (hn : gval 4294967296 L = n) (hk : L.length ≤ K) : IsN (.agg #[.bool s, .slice (some ⟨g, 0, none⟩) L.length L.length]) (sv s n) K w :=
  ⟨s, _, L, _, rfl, h.lies, Nat.le_refl _, hm, by rw [hn], hk⟩
/-- a slice of limbs that is worth n -/
def Sl (sl : Value) (n K : Nat) (w : World) : Prop := ∀ s, IsN (.agg #[.bool s, sl]) (sv s n) K w
theorem Sl.below {sl : Value} {n K : Nat} {w w' : World} (h : Sl sl n K w) (hb : Below w.heap.size w w') : Sl sl n K w' := fun s => (h s).below hb
theorem sv_add_same {X Y : Int} (h : decide (X < 0) = decide (Y < 0)) : sv (decide (X < 0)) (X.natAbs + Y.natAbs) = X + Y := by
  unfold sv
  by_cases hx : X < 0
  · have hy : Y < 0 := by simpa [hx] using h
    simp only [hx, decide_true, if_true]; omega
  · have hy : ¬ Y < 0 := by simpa [hx] using h
    simp only [hx, decide_false, Bool.false_eq_true, if_false]; omega
theorem sv_add_sub {X Y : Int} (h : decide (X < 0) ≠ decide (Y < 0)) (hle : Y.natAbs ≤ X.natAbs) : sv (decide (X < 0)) (X.natAbs - Y.natAbs) = X + Y := by
  unfold sv
  by_cases hx : X < 0
  · have hy : ¬ Y < 0 := by simpa [hx] using h
    simp only [hx, decide_true, if_true]; omega
  · have hy : Y < 0 := by simpa [hx] using h
    simp only [hx, decide_false, Bool.false_eq_true, if_false]; omega
end Go.Proofs.YtddbndachoofoaaDoor
