/- Terms that may be are their copies; tuples and lists of them. -/
import Derived.Test.YtpdoepjnkgffpaaDoorTermRoomOk
import Derived.Test.YtpdoepjnkgffpaaDoorTermMakers
namespace Go.Proofs.YtpdoepjnkgffpaaDoor
open Go.ChangeShapes Go.WideShapes Go.ChangeAt Go.RowKit Go.Shelf
set_option linter.unusedSimpArgs false
set_option linter.unusedVariables false
set_option maxRecDepth 2000
theorem bytes_nil {s : ByteArray} (h : s.toList = []) : s = noS := by
  have h1 := isEmpty_bytes s
  rw [h] at h1
  have h2 : s.data.toList = [] := by
    have : decide (s.data.toList ≠ []) = false := by rw [← h1]; rfl
    simpa using this
  cases s with | mk a =>
  simp at h2
  subst h2
  rfl
theorem prT_lean {T : Tm} (h : leanB T = true) : prT T = T := by
  cases T with | mk k neg d nm n l b =>
  unfold leanB at h
  obtain ⟨P, hP⟩ : ∃ P, prT (.mk k neg d nm n l b) = P := ⟨_, rfl⟩
  rw [hP] at h ⊢
  unfold prT at hP
  by_cases e0 : k = 0
  · subst e0; simp at hP; subst hP; simp [eqF, nil_noS] at h; obtain ⟨⟨⟨h1, rfl⟩, rfl⟩, rfl⟩ := h; rw [bytes_nil h1]
  by_cases e1 : k = 1
  · subst e1; simp at hP; subst hP; simp [eqF, nil_noS] at h; obtain ⟨⟨⟨⟨rfl, rfl⟩, rfl⟩, rfl⟩, rfl⟩ := h; rfl
  by_cases e2 : k = 2
  · subst e2; simp at hP; subst hP; simp [eqF, nil_noS] at h; obtain ⟨⟨⟨⟨rfl, h1⟩, rfl⟩, rfl⟩, rfl⟩ := h; rw [bytes_nil h1]
  by_cases e3 : k = 3
  · subst e3; simp at hP; subst hP; simp [eqF, nil_noS] at h; obtain ⟨⟨⟨⟨rfl, h1⟩, rfl⟩, rfl⟩, rfl⟩ := h; rw [bytes_nil h1]
  by_cases e4 : k = 4
  · subst e4; simp at hP; subst hP; simp [eqF, nil_noS] at h; obtain ⟨⟨⟨⟨rfl, h1⟩, rfl⟩, rfl⟩, rfl⟩ := h; rw [bytes_nil h1]
  by_cases e6 : k = 6
  · subst e6; simp at hP; subst hP; simp [eqF, nil_noS] at h; obtain ⟨⟨⟨⟨rfl, h1⟩, rfl⟩, rfl⟩, rfl⟩ := h; rw [bytes_nil h1]
  by_cases e7 : k = 7
  · subst e7; simp at hP; subst hP; simp [eqF, nil_noS] at h; obtain ⟨⟨⟨⟨rfl, h1⟩, rfl⟩, rfl⟩, rfl⟩ := h; rw [bytes_nil h1]
  simp only [e0, e1, e2, e3, e4, e6, e7, if_false] at hP
  subst hP
  simp [eqF, nil_noS] at h
  obtain ⟨⟨⟨⟨⟨⟨rfl, rfl⟩, h1⟩, rfl⟩, rfl⟩, rfl⟩, rfl⟩ := h
  rw [bytes_nil h1]
theorem fair_lean {T : Tm} (h : fairB T = true) : leanB T = true := by
  unfold fairB at h
  rw [Bool.and_eq_true] at h
  exact h.1
mutual
theorem cpT_id : ∀ (T : Tm), (∀ p ∈ parts T, fairB p = true) → cpT T = T
  | .mk k neg d nm n l b, h => by
    have hp := prT_lean (fair_lean (h (.mk k neg d nm n l b) (by rw [parts_eq]; simp)))
    by_cases hk : k = 4 ∨ k = 6
    · have hl := cpL_id l (fun p hp' => h p (by simp only [parts, hk, if_true]; exact List.mem_cons_of_mem _ hp'))
      unfold cpT
      rw [if_pos hk, hl]
      rcases hk with rfl | rfl
      · simpa [prT] using hp
      · simpa [prT] using hp
    · unfold cpT
      rw [if_neg hk]
      have h4 : ¬ k = 4 := fun e => hk (.inl e)
      have h6 : ¬ k = 6 := fun e => hk (.inr e)
      have e : prT (.mk k neg d nm n l b) = prT (.mk k neg d nm n [] b) := by simp only [prT, h4, h6, if_false]
      rw [← e]
      exact hp
theorem cpL_id : ∀ (l : List Tm), (∀ p ∈ partsL l, fairB p = true) → cpL l = l
  | [], _ => rfl
  | t :: l, h => by
    simp only [cpL]
    rw [cpT_id t (fun p hp => h p (by simp [partsL, hp])), cpL_id l (fun p hp => h p (by simp [partsL, hp]))]
end
theorem list_parts : ∀ l : List Tm, (parts (listT l)).length = (partsL l).length + l.length + 1
  | [] => by simp [listT, parts_nil, partsL]
  | t :: l => by
    have := list_parts l
    simp only [listT, parts_cons, partsL, List.length_cons, List.length_append, this]; omega
theorem list_words : ∀ l : List Tm, wordsN (listT l) = 3 * l.length + sumL l
  | [] => by
    unfold wordsN
    simp only [listT, parts_nil]
    simp [nilT, roomN, sumL, partsL]
  | t :: l => by
    have := list_words l
    unfold wordsN sumL at this ⊢
    have hc : roomN (consT t (listT l)) = 3 := by simp [consT, roomN]
    simp only [listT, parts_cons, partsL, List.map_cons, List.map_append, List.sum_cons, List.sum_append, List.length_cons, this, hc]
    omega
theorem tup_words (l : List Tm) : wordsN (tupT l) = 1 + l.length + sumL l := by
  unfold wordsN sumL
  rw [parts_tup]
  simp [tupT, roomN]
theorem mem_list_parts : ∀ (l : List Tm) (p : Tm), p ∈ parts (listT l) → p ∈ partsL l ∨ (∃ a b, p = consT a b) ∨ p = nilT
  | [], p, h => by simp [listT, parts_nil] at h; exact .inr (.inr h)
  | t :: l, p, h => by
    simp only [listT, parts_cons, List.mem_cons, List.mem_append] at h
    rcases h with rfl | h | h
    · exact .inr (.inl ⟨_, _, rfl⟩)
    · exact .inl (by simp [partsL, h])
    · rcases mem_list_parts l p h with h | h | h
      · exact .inl (by simp [partsL, h])
      · exact .inr (.inl h)
      · exact .inr (.inr h)
theorem dep_list : ∀ l : List Tm, dep (listT l) ≤ l.length + depL l + 1
  | [] => by simp [listT, nilT, dep]
  | t :: l => by
    have := dep_list l
    simp only [listT, consT, dep, depL, List.length_cons]
    simp
    omega
theorem mayB_of {T : Tm} (h1 : (parts T).length ≤ 65536) (h2 : ∀ p ∈ parts T, fairB p = true) : mayB T = true := by
  unfold mayB
  rw [Bool.and_eq_true, List.all_eq_true]
  exact ⟨decide_eq_true (Nat.le_trans (Nat.min_le_left _ _) h1), h2⟩
theorem treeN_of {T : Tm} (h1 : (parts T).length ≤ 65536) : treeN T = (parts T).length := by
  unfold treeN
  exact Nat.min_eq_left (Nat.le_trans h1 (by omega))
theorem fair_tup {l : List Tm} (h : l.length ≤ 255) : fairB (tupT l) = true := by
  unfold fairB
  rw [leanB_of (by simp [tupT, prT])]
  simp [tupT, withinB]; omega
end Go.Proofs.YtpdoepjnkgffpaaDoor
