/- Which terms may be, how great they are: numbers, names, lists of them. -/
import Derived.Test.YtgaecjocolihjaaDoorTermList
namespace Go.Proofs.YtgaecjocolihjaaDoor
open Go.ChangeShapes Go.WideShapes Go.ChangeAt Go.RowKit Go.Shelf
set_option linter.unusedSimpArgs false
set_option linter.unusedVariables false
theorem sv_int (Z : Int) : sv (decide (Z < 0)) (gval 4294967296 (glim 4294967296 Z.natAbs)) = Z := by
  rw [gval_glim (by omega)]
  unfold sv
  by_cases hz : Z < 0
  · simp only [hz, decide_true, if_true]; omega
  · simp only [hz, decide_false, Bool.false_eq_true, if_false]; omega
theorem normB_int (Z : Int) : normB (decide (Z < 0)) (glim 4294967296 Z.natAbs) = true := by
  unfold normB
  rw [sv_int]
  simp
theorem prT_int (Z : Int) : prT (intT Z) = intT Z := by simp [intT, prT]
theorem prT_atom (nm : ByteArray) : prT (atomT nm) = atomT nm := by simp [atomT, prT]
theorem leanB_of {T : Tm} (h : prT T = T) : leanB T = true := by
  unfold leanB
  rw [h]
  cases T with | mk k neg d nm n l b =>
  simp [eqF]
theorem fairB_int (Z : Int) : fairB (intT Z) = decide ((glim 4294967296 Z.natAbs).length ≤ 64) := by
  unfold fairB
  rw [leanB_of (prT_int Z)]
  have h := normB_int Z
  unfold intT withinB
  simp only [if_true, h, Bool.and_true, Bool.true_and]
  apply decide_eq_decide.2
  omega
theorem parts_int (Z : Int) : parts (intT Z) = [intT Z] := by simp [intT, parts]
theorem dep_int (Z : Int) : dep (intT Z) = 0 := by simp [intT, dep]
theorem ok_int {Z : Int} (h : (glim 4294967296 Z.natAbs).length ≤ 1000000) : (intT Z).ok1 := ⟨h, by decide, by simp, by simp, lm_glim (by omega) _⟩
theorem room_int (Z : Int) : roomN (intT Z) = if smlB Z then 0 else 1 + (glim 4294967296 Z.natAbs).length := by
  unfold intT roomN
  simp only [if_true, sv_int]
theorem words_int (Z : Int) : wordsN (intT Z) = if smlB Z then 0 else 1 + (glim 4294967296 Z.natAbs).length := by
  unfold wordsN
  rw [parts_int]
  simp only [List.map_cons, List.map_nil, List.sum_cons, List.sum_nil, Nat.add_zero, room_int]
theorem may_int (Z : Int) : mayB (intT Z) = decide ((glim 4294967296 Z.natAbs).length ≤ 64) := by
  unfold mayB treeN
  rw [parts_int]
  simp [fairB_int]
theorem cpT_int (Z : Int) : cpT (intT Z) = intT Z := by simp [intT, cpT, prT]
theorem cpT_atom (nm : ByteArray) : cpT (atomT nm) = atomT nm := by simp [atomT, cpT, prT]
theorem parts_atom (nm : ByteArray) : parts (atomT nm) = [atomT nm] := by simp [atomT, parts]
theorem parts_nil : parts nilT = [nilT] := by simp [nilT, parts]
theorem parts_cons (a b : Tm) : parts (consT a b) = consT a b :: (parts a ++ parts b) := by simp [consT, parts, partsL]
theorem glim_one : glim 4294967296 1 = [1] := by rw [glim_pos (by omega) (by omega)]; simp [glim_zero]
abbrev sA : ByteArray := { data := #[97] }
def awT : Tm := listT [intT 1, atomT sA]
theorem aw_parts : parts awT = [consT (intT 1) (consT (atomT sA) nilT), intT 1, consT (atomT sA) nilT, atomT sA, nilT] := by
  simp only [awT, listT, parts_cons, parts_int, parts_atom, parts_nil, List.cons_append, List.nil_append]
theorem aw_tree : treeN awT = 5 := by unfold treeN; rw [aw_parts]; rfl
theorem aw_words : wordsN awT = 6 := by
  unfold wordsN
  rw [aw_parts]
  simp only [List.map_cons, List.map_nil, List.sum_cons, List.sum_nil, room_int]
  simp [roomN, consT, atomT, nilT, smlB]
theorem ok_cons (a b : Tm) : (consT a b).ok1 := ⟨by simp, by decide, by simp, by simp, Lm.nil _⟩
theorem aw_ok : ∀ p ∈ parts awT, p.ok1 := by
  rw [aw_parts]
  intro p hp
  simp only [List.mem_cons, List.not_mem_nil, or_false] at hp
  rcases hp with rfl | rfl | rfl | rfl | rfl
  · exact ok_cons _ _
  · exact ok_int (by decide +kernel)
  · exact ok_cons _ _
  · exact ok_flat 1 0 (by decide)
  · exact ok_flat 5 0 (by decide)
theorem fair_cons (a b : Tm) : fairB (consT a b) = true := by
  unfold fairB
  rw [leanB_of (by simp [consT, prT])]
  simp [consT, withinB]
theorem fair_nil : fairB nilT = true := by
  unfold fairB
  rw [leanB_of (by simp [nilT, prT])]
  simp [nilT, withinB]
theorem fair_atom (nm : ByteArray) : fairB (atomT nm) = (decide (0 ≤ countZ nm.data.toList) && decide (countZ nm.data.toList ≤ 255)) := by
  unfold fairB
  rw [leanB_of (prT_atom nm)]
  simp [atomT, withinB]
theorem aw_may : mayB awT = true := by
  have h1 : countZ sA.data.toList = 1 := by decide +kernel
  unfold mayB
  rw [aw_tree, aw_parts]
  simp only [List.all_cons, List.all_nil, fair_cons, fair_nil, fair_atom, fairB_int, h1]
  decide +kernel
theorem aw_dep : dep awT ≤ 1000000 := by
  simp [awT, listT, consT, nilT, dep, depL, dep_int, atomT]
theorem aw_cp : listT (cpL [intT 1, atomT sA]) = awT := by simp [cpL, cpT_int, cpT_atom, awT]
end Go.Proofs.YtgaecjocolihjaaDoor
