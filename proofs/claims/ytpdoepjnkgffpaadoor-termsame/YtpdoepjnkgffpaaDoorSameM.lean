/- Alike parts, and the order of terms. -/
import Derived.Test.YtpdoepjnkgffpaaDoorTermSameF
import Derived.Test.YtpdoepjnkgffpaaDoorOrdNext
namespace Go.Proofs.YtpdoepjnkgffpaaDoor
open Go.ChangeShapes Go.WideShapes Go.ChangeAt Go.RowKit Go.Shelf
set_option linter.unusedSimpArgs false
set_option linter.unusedVariables false
set_option maxRecDepth 2000
theorem lexZ_zero : ∀ a b : List Nat, lexZ a b = 0 ↔ a = b
  | [], [] => by simp [lexZ_self]
  | [], _ :: _ => by show (-1 : Int) = 0 ↔ _; simp
  | _ :: _, [] => by show (1 : Int) = 0 ↔ _; simp
  | x :: xs, y :: ys => by
    rw [lexZ_cons]
    by_cases h : x = y
    · subst h
      rw [cz_self, lx_zero, lexZ_zero xs ys]
      simp
    · have h2 : cmpZ (x : Int) (y : Int) ≠ 0 := by rw [Ne, cz_zero]; omega
      rw [lx_ne h2]
      simp [h, h2]
theorem less_zero {a b : List UInt8} (ha : Lib.validD a = true) (hb : Lib.validD b = true) : lessZ a b = 0 ↔ a = b := by
  rw [lessZ_valid ha hb, lexZ_zero]
  constructor
  · intro h
    rw [← en_of_valid ha, ← en_of_valid hb, h]
  · intro h; rw [h]
theorem alike_cT (x y : Tm) (hx : wfT x) (hy : wfT y) : (alikeB (prT x) (prT y) = true → cT x y = cR x.kids y.kids ∧ x.kids.length = y.kids.length) ∧ (alikeB (prT x) (prT y) = false → cT x y ≠ 0) := by
  have hox := hx.self
  have hoy := hy.self
  cases x with | mk k neg d nm n l b =>
  cases y with | mk k' neg' d' nm' n' l' b' =>
  obtain ⟨a1, a2, a3, a4, _⟩ := hox
  obtain ⟨b1, b2, b3, b4, _⟩ := hoy
  by_cases hkk : k = k'
  · subst hkk
    have hcase : k = 0 ∨ k = 1 ∨ k = 2 ∨ k = 3 ∨ k = 4 ∨ k = 5 ∨ k = 6 ∨ k = 7 := by omega
    rcases hcase with rfl | rfl | rfl | rfl | rfl | rfl | rfl | rfl
    · rw [cT_0]
      simp [prT, alikeB, Tm.kids, cR_nil, cz_zero]
    · rw [cT_1]
      have hz := less_zero (a4 rfl) (b4 rfl)
      have he : (nm.toList = nm'.toList) ↔ nm.data.toList = nm'.data.toList := by rw [ByteArray.toList_eq, ByteArray.toList_eq]
      simp [prT, alikeB, Tm.kids, cR_nil, hz, he, gval]
    · rw [cT_2]
      simp [prT, alikeB, Tm.kids, cR_nil, cz_zero, gval]
    · rw [cT_3]
      simp [prT, alikeB, Tm.kids, cR_nil, cz_zero, gval]
    · rw [cT_4]
      by_cases hl : l.length = l'.length
      · have : cmpZ (l.length : Int) (l'.length : Int) = 0 := (cz_zero _ _).2 (by omega)
        rw [this, lx_zero]
        simp [prT, alikeB, Tm.kids, gval, hl]
      · have h2 : cmpZ (l.length : Int) (l'.length : Int) ≠ 0 := by rw [Ne, cz_zero]; omega
        rw [lx_ne h2]
        simp [prT, alikeB, Tm.kids, gval, h2, show ¬ ((l.length : Int) = (l'.length : Int)) by omega]
    · have : cT (.mk 5 neg d nm n l b) (.mk 5 neg' d' nm' n' l' b') = 0 := by rw [cT, cz_self, lx_zero]; simp
      rw [this]
      simp [prT, alikeB, Tm.kids, cR_nil, gval]
    · rw [cT_6]
      have h1 := a3 rfl
      have h2 := b3 rfl
      have : cmpZ (l.length : Int) (l'.length : Int) = 0 := (cz_zero _ _).2 (by omega)
      rw [this, lx_zero]
      simp [prT, alikeB, Tm.kids, gval, h1, h2]
    · rw [cT_7]
      simp [prT, alikeB, Tm.kids, cR_nil, lexZ_zero, gval]
  · have hc : cT (.mk k neg d nm n l b) (.mk k' neg' d' nm' n' l' b') ≠ 0 := by
      rw [cT_kind hkk, Ne, cz_zero]; exact hkk
    refine ⟨fun h => ?_, fun _ => hc⟩
    have hp : ∀ (k : Int) (neg : Bool) (d : List Nat) (nm : ByteArray) (n : Int) (l : List Tm) (b : List Nat), 0 ≤ k → k ≤ 7 → (prT (.mk k neg d nm n l b)).kind = k := fun k neg d nm n l b h0 h7 => by
      have hcase : k = 0 ∨ k = 1 ∨ k = 2 ∨ k = 3 ∨ k = 4 ∨ k = 5 ∨ k = 6 ∨ k = 7 := by omega
      rcases hcase with rfl | rfl | rfl | rfl | rfl | rfl | rfl | rfl <;> simp [prT, Tm.kind]
    have e1 := hp k neg d nm n l b a1 a2
    have e2 := hp k' neg' d' nm' n' l' b' b1 b2
    have ha : ∀ A B : Tm, alikeB A B = true → A.kind = B.kind := fun A B h => by
      cases A; cases B
      unfold alikeB at h
      simp only [Bool.and_eq_true, decide_eq_true_eq] at h
      exact h.1
    exact absurd (by rw [← e1, ← e2]; exact ha _ _ h) hkk
end Go.Proofs.YtpdoepjnkgffpaaDoor
