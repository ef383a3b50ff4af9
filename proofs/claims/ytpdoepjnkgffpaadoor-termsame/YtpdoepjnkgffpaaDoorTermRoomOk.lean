/- What Room says of a term; what May says of its parts. -/
import Derived.Test.YtpdoepjnkgffpaaDoorTermRWords
namespace Go.Proofs.YtpdoepjnkgffpaaDoor
open Go.ChangeShapes Go.WideShapes Go.ChangeAt Go.RowKit Go.Shelf
set_option linter.unusedSimpArgs false
set_option linter.unusedVariables false
set_option maxRecDepth 2000
mutual
theorem room_ok {Z : Nat → Prop} {w : World} {most : Int} (hm : most ≤ 1000000) : ∀ (T : Tm) (v : Value) (dp : Int), TV Z w T v → roomB most dp T = true → (∀ p ∈ parts T, p.ok1) ∧ (dep T : Int) ≤ dp + 1
  | .mk k neg d nm n l b, v, dp, h, hr => by
    unfold TV at h
    obtain ⟨od, cd, ol, cl, ob, cb, _, _, _, h3, _, _, _, h7⟩ := h
    unfold roomB at hr
    simp only [Bool.and_eq_true, decide_eq_true_eq] at hr
    obtain ⟨r1, r2, r3, r4, r5, r6⟩ := hr
    obtain ⟨g1, g2⟩ := room_okL hm l ol (dp - 1) h7 r6 (by omega)
    have hself : (Tm.mk k neg d nm n l b).ok1 := ⟨by omega, by omega, by omega, by omega, h3⟩
    refine ⟨fun p hp => ?_, ?_⟩
    · rw [parts_eq] at hp
      rcases List.mem_cons.1 hp with rfl | hp
      · exact hself
      · by_cases hk : k = 4 ∨ k = 6
        · simp only [Tm.kids, hk, if_true] at hp; exact g1 p hp
        · simp only [Tm.kids, hk, if_false, partsL, List.not_mem_nil] at hp
    · unfold dep
      split <;> omega
theorem room_okL {Z : Nat → Prop} {w : World} {most : Int} (hm : most ≤ 1000000) : ∀ (l : List Tm) (o : Option Addr) (dp : Int), TR Z w l o → roomsB most dp l = true → -1 ≤ dp → (∀ p ∈ partsL l, p.ok1) ∧ (depL l : Int) ≤ dp + 1
  | [], o, dp, _, _, h => ⟨by simp [partsL], by simp [depL]; omega⟩
  | t :: l, o, dp, h, hr, hd => by
    unfold TR at h
    obtain ⟨a, v, _, _, _, hT, hR⟩ := h
    unfold roomsB at hr
    rw [Bool.and_eq_true] at hr
    obtain ⟨g1, g2⟩ := room_ok hm t v dp hT hr.1
    obtain ⟨g3, g4⟩ := room_okL hm l _ dp hR hr.2 hd
    refine ⟨fun p hp => ?_, ?_⟩
    · simp only [partsL, List.mem_append] at hp
      rcases hp with hp | hp
      · exact g1 p hp
      · exact g3 p hp
    · simp only [depL]; omega
end
theorem tr_le {M M' p : Nat} (hM : M' = M + 1) (h : min p M' ≤ M) : p ≤ M := by subst hM; omega
theorem may_parts {T : Tm} (h : mayB T = true) : (parts T).length ≤ 65536 ∧ ∀ p ∈ parts T, fairB p = true := by
  unfold mayB at h
  rw [Bool.and_eq_true, List.all_eq_true] at h
  refine ⟨?_, h.2⟩
  have h1 : treeN T ≤ 65536 := of_decide_eq_true h.1
  exact tr_le (M := 65536) rfl h1
end Go.Proofs.YtpdoepjnkgffpaaDoor
