/- may, May of the reference. -/
import Derived.Test.YtddbndachoofoaaDoorTermRTree
import Derived.Test.YtddbndachoofoaaDoorTermBigB
import Derived.Test.YtddbndachoofoaaDoorTermOf
namespace Go.Proofs.YtddbndachoofoaaDoor
open Go.ChangeShapes Go.WideShapes Go.ChangeAt Go.RowKit Go.Shelf
set_option linter.unusedSimpArgs false
set_option linter.unusedVariables false
theorem sameNum_ne (na nb : Bool) (oa ob : Option Addr) (la lb ca cb : Nat) (w : World) (h : na ≠ nb ∨ la ≠ lb) :
    Calls Tryd.prog 34 #[.agg #[.bool na, .slice oa la ca], .agg #[.bool nb, .slice ob lb cb]] w fun e w' => e = .returned (.bool false) ∧ Below w.heap.size w w' := by
  obtain ⟨kA, kB, hB0, hz0⟩ := boxes2 w (.bool na) (.slice oa la ca) (.bool nb) (.slice ob lb cb) 44 44
  by_cases hb : na = nb
  · subst hb
    have hbb : (na != na) = false := by cases na <;> rfl
    have hl : la ≠ lb := h.resolve_left (fun e => e rfl)
    have hll : ((la : Int) != (lb : Int)) = true := by simp; omega
    clear h hl
    go_enter Tryd.func34, Tryd.ntmps34
    go_wp2
    all_goals (go_ret; exact ⟨rfl, hB0⟩)
  · have hbb : (na != nb) = true := by simpa using hb
    clear h
    go_enter Tryd.func34, Tryd.ntmps34
    go_wp2
    all_goals (go_ret; exact ⟨rfl, hB0⟩)
/-- a number held against its Norm -/
theorem sameNorm_w (neg : Bool) (d : List Nat) (od o : Option Addr) (cd c : Nat) (b : Bool) (n K : Nat) (w : World) (hK : K ≤ 1000000) (hm : Lm 4294967296 d) (hL : Lies od d w) (hd : d.length ≤ K) (hcd : d.length ≤ cd) (hC : IsC (.agg #[.bool b, .slice o n c]) (sv neg (gval 4294967296 d)) K w) :
    Calls Tryd.prog 34 #[.agg #[.bool neg, .slice od d.length cd], .agg #[.bool b, .slice o n c]] w fun e w' => e = .returned (.bool (normB neg d)) ∧ Below w.heap.size w w' := by
  have hnat : (sv neg (gval 4294967296 d)).natAbs = gval 4294967296 d := by unfold sv; cases neg <;> simp
  obtain ⟨hb, hn⟩ := hC.parts
  by_cases h : normB neg d = true
  · rw [h]
    unfold normB at h
    simp only [Bool.and_eq_true, beq_iff_eq] at h
    have hlen : (glim 4294967296 (sv neg (gval 4294967296 d)).natAbs).length = d.length := by omega
    have hgl : glim 4294967296 (sv neg (gval 4294967296 d)).natAbs = d := by
      obtain ⟨k, hk, hg⟩ := glim_is_take hm
      rw [hnat] at hlen ⊢
      rw [hg, List.length_take] at hlen
      rw [hg, List.take_of_length_le (by omega)]
    refine sameNum_w _ _ (sv neg (gval 4294967296 d)) K w hK ⟨od, cd, ?_, ?_, ?_, ?_⟩ hC
    · rw [hgl, h.1]
    · rw [hgl]; exact hL
    · rw [hgl]; exact hcd
    · rw [hgl]; exact hd
  · have hf : normB neg d = false := by simpa using h
    rw [hf]
    refine sameNum_ne _ _ _ _ _ _ _ _ w ?_
    unfold normB at h
    simp only [Bool.and_eq_true, beq_iff_eq, not_and] at h
    by_cases e : neg = b
    · right
      intro e2
      exact h (by rw [← hb, e]) (by rw [hn] at e2; omega)
    · left; exact e
end Go.Proofs.YtddbndachoofoaaDoor
