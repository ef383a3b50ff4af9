/- slices.Reverse at bytes, on a row of the call's own. -/
import Derived.Test.YtccogdlmlegmbaaBigShrink
import Derived.BigRegion
namespace Go.Proofs.Ytccogdlmlegmbaa
open Go.ChangeShapes Go.WideShapes Go.ChangeAt Go.RowKit
set_option linter.unusedSimpArgs false
set_option linter.unusedVariables false
/-- bytes in a block of the call's own, from its beginning on -/
def OwnB (g : Nat) (l : List Nat) (w : World) : Prop := (∀ (j x : Nat), l[j]? = some x → w.cell? ⟨g, j, none⟩ = some (.int .u8 (x : Int))) ∧ ∀ j, w.frozen? ⟨g, j, none⟩ = false
theorem OwnB.set {g : Nat} {l : List Nat} {w : World} (h : OwnB g l w) {j : Nat} (x : Nat) (hj : j < l.length) : OwnB g (l.set j x) (w.setCell ⟨g, j, none⟩ (.int .u8 (x : Int))) := by
  have hc := h.1 j l[j] (by simp [hj])
  refine ⟨fun i y hy => ?_, fun i => ?_⟩
  · by_cases hij : j = i
    · subst hij
      rw [List.getElem?_set_self hj] at hy
      injection hy with hy; subst hy
      exact World.cell?_setCell_same _ _ _ hc
    · rw [List.getElem?_set_ne hij] at hy
      rw [World.cell?_setCell_other w ⟨g, j, none⟩ ⟨g, i, none⟩ _ (by simp [hij])]
      exact h.1 i y hy
  · have := World.frozen?_setCells g [Value.int .u8 (x : Int)] j w ⟨g, i, none⟩
    exact this.trans (h.2 i)
theorem OwnB.drew {g : Nat} {l : List Nat} {w : World} (h : OwnB g l w) : OwnB g l w.drew := h
theorem Only.drew {g : Nat} {a b : World} (h : Only g a b) : Only g a b.drew := ⟨h.1.drew, h.2.1, h.2.2⟩
set_option maxHeartbeats 1000000 in
theorem reverse_w (g c : Nat) (l : List Nat) (w : World) (hlen : l.length ≤ 1000000) (hO : OwnB g l w) :
    Calls Try.prog 38 #[.slice (some ⟨g, 0, none⟩) l.length c] w fun e w' => (∃ v, e = .returned v) ∧ OwnB g l.reverse w' ∧ Only g w w' := by
  go_enter Try.func38, Try.ntmps38
  go_wp2
  go_loopw [2, 3] (fun i j wr => ∃ (k : Nat) (L : List Nat), i = .int .i64 (k : Int) ∧ j = .int .i64 ((l.length : Int) - 1 - (k : Int)) ∧ 2 * k ≤ l.length + 1 ∧ OwnB g L wr ∧ L.length = l.length ∧ Only g w wr ∧ Hid (∀ q, q < l.length → L[q]? = if q < k ∨ l.length ≤ q + k then l[l.length - 1 - q]? else l[q]?)) (fun i _ _ => l.length - (intOf i).toNat)
  case atStart =>
    refine ⟨0, l, rfl, by go_num, by omega, hO, rfl, Only.refl _ _, hid fun q hq => ?_⟩
    rw [if_neg (by omega)]
  case round =>
    obtain ⟨k, L, rfl, rfl, hk, hL, hLl, hon, hH⟩ := hrel
    by_cases h1 : 2 * k + 1 < l.length
    · obtain ⟨m, hm⟩ : ∃ m, l.length - 1 - k = m := ⟨_, rfl⟩
      have hmz : (l.length : Int) - 1 - (k : Int) = (m : Int) := by omega
      have hkm : (k : Int) < (m : Int) := by omega
      have hkl : (k : Int) < (l.length : Int) := by omega
      have hml : (m : Int) < (l.length : Int) := by omega
      obtain ⟨x, hx⟩ : ∃ x, L[k]? = some x := ⟨L[k]'(by omega), by simp⟩
      obtain ⟨y, hy⟩ : ∃ y, L[m]? = some y := ⟨L[m]'(by omega), by simp⟩
      have cx := hL.1 k x hx
      have cy := hL.1 m y hy
      have fx := hL.2 k
      have fy := hL.2 m
      have hne1 : ¬ k = m := by omega
      have hne2 : ¬ m = k := by omega
      have hx' := hid hx
      have hy' := hid hy
      have hm' := hid hm
      clear hx hy hm
      rw [hmz]
      go_wp2
      go_region
      all_goals go_wp2
      go_roundw
      case rel =>
        have hx := hx'.out
        have hy := hy'.out
        have hm := hm'.out
        have hk2 : k < L.length := by omega
        refine ⟨k + 1, (L.set k y).set m x, by go_num, by congr 1; omega, by omega, ((hL.set y (by omega)).set x (by simp; omega)).drew, by simp [hLl], ((hon.setCell _ _).setCell _ _).drew, hid fun q hq => ?_⟩
        have hHk := hH.out k (by omega)
        have hHm := hH.out m (by omega)
        rw [if_neg (by omega), hx] at hHk
        rw [if_neg (by omega), hy] at hHm
        by_cases hqm : q = m
        · subst hqm
          rw [List.getElem?_set_self (by simp; omega), if_pos (by omega), show l.length - 1 - q = k by omega, hHk]
        · rw [List.getElem?_set_ne (by omega)]
          by_cases hqk : q = k
          · subst hqk
            rw [List.getElem?_set_self (by omega), if_pos (by omega), show l.length - 1 - q = m by omega, hHm]
          · rw [List.getElem?_set_ne (by omega), hH.out q hq]
            by_cases hc : q < k ∨ l.length ≤ q + k
            · rw [if_pos hc, if_pos (by omega)]
            · rw [if_neg hc, if_neg (by omega)]
      case measure => simp [intOf]; omega
    · have h1z : ¬ (k : Int) < (l.length : Int) - 1 - (k : Int) := by omega
      have hLr : L = l.reverse := by
        refine List.ext_getElem? fun q => ?_
        by_cases hq : q < l.length
        · rw [hH.out q hq, List.getElem?_reverse hq]
          split
          · rfl
          · rw [show l.length - 1 - q = q by omega]
        · rw [List.getElem?_eq_none (by omega), List.getElem?_eq_none (by simp; omega)]
      clear hH
      go_wp2
      go_end0
      exact ⟨⟨_, rfl⟩, hLr ▸ hL, hon⟩
end Go.Proofs.Ytccogdlmlegmbaa
