/- Tuples and lists of terms that may be: that they may be, and their texts. -/
import Derived.Test.YtjacoodfhkaioaaGreatDoorTextListsM
import Derived.Test.YtjacoodfhkaioaaGreatDoorChJ
namespace Go.Proofs.YtjacoodfhkaioaaGreatDoor
open Go.ChangeShapes Go.WideShapes Go.ChangeAt Go.RowKit Go.Shelf
set_option linter.unusedSimpArgs false
set_option linter.unusedVariables false
set_option maxRecDepth 2000

theorem fair_tupT (l : List Tm) (h : l.length ≤ 255) : fairB (tupT l) = true := by
  unfold fairB
  rw [leanB_of (by simp [tupT, prT]), Bool.true_and]
  unfold tupT withinB
  simp
  omega
theorem fair_consT (a b : Tm) : fairB (consT a b) = true := by
  unfold fairB
  rw [leanB_of (by simp [consT, prT]), Bool.true_and]
  unfold consT withinB
  simp
theorem fair_nilT : fairB nilT = true := by
  unfold fairB
  rw [leanB_of (by simp [nilT, prT]), Bool.true_and]
  unfold nilT withinB
  simp
theorem mem_partsL_all {l : List Tm} (h : ∀ t ∈ l, ∀ p ∈ parts t, fairB p = true) : ∀ p ∈ partsL l, fairB p = true := fun p hp => by
  obtain ⟨t, ht, hpt⟩ := mem_pL hp
  exact h t ht p hpt
theorem may_fair {t : Tm} (h : mayB t = true) : ∀ p ∈ parts t, fairB p = true := by
  unfold mayB at h
  rw [Bool.and_eq_true] at h
  exact List.all_eq_true.1 h.2
theorem parts_tupT (l : List Tm) : parts (tupT l) = tupT l :: partsL l := by simp [tupT, parts]
theorem parts_consT (a b : Tm) : parts (consT a b) = consT a b :: (parts a ++ parts b) := by simp [consT, parts, partsL]
theorem may_tupT {l : List Tm} (hl : l.length ≤ 255) (h : ∀ t ∈ l, mayB t = true) (hn : (partsL l).length + 1 ≤ 65536) : mayB (tupT l) = true := by
  unfold mayB
  rw [Bool.and_eq_true]
  constructor
  · refine decide_eq_true ?_
    unfold treeN
    rw [parts_tupT, List.length_cons]
    omega
  · refine List.all_eq_true.2 (fun p hp => ?_)
    rw [parts_tupT] at hp
    rcases List.mem_cons.1 hp with rfl | hp
    · exact fair_tupT l hl
    · exact mem_partsL_all (fun t ht => may_fair (h t ht)) p hp
theorem parts_listT : ∀ l : List Tm, (parts (listT l)).length = (partsL l).length + l.length + 1
  | [] => by simp [listT, nilT, parts, partsL]
  | t :: l => by
    have := parts_listT l
    show (parts (consT t (listT l))).length = _
    rw [parts_consT, List.length_cons, List.length_append, this]
    simp only [partsL, List.length_append, List.length_cons]
    omega
theorem fair_listT : ∀ l : List Tm, (∀ t ∈ l, mayB t = true) → ∀ p ∈ parts (listT l), fairB p = true
  | [], _, p, hp => by
    have : p = nilT := by simpa [listT, nilT, parts, partsL] using hp
    rw [this]; exact fair_nilT
  | t :: l, h, p, hp => by
    have hp : p ∈ parts (consT t (listT l)) := hp
    rw [parts_consT] at hp
    rcases List.mem_cons.1 hp with rfl | hp
    · exact fair_consT _ _
    · rcases List.mem_append.1 hp with hp | hp
      · exact may_fair (h t (by simp)) p hp
      · exact fair_listT l (fun u hu => h u (List.mem_cons_of_mem _ hu)) p hp
theorem may_listT {l : List Tm} (h : ∀ t ∈ l, mayB t = true) (hn : (partsL l).length + l.length + 1 ≤ 65536) : mayB (listT l) = true := by
  unfold mayB
  rw [Bool.and_eq_true]
  constructor
  · refine decide_eq_true ?_
    unfold treeN
    rw [parts_listT]
    omega
  · exact List.all_eq_true.2 (fair_listT l h)
theorem tx_tupT (l : List Tm) : tx (tupT l) = 123 :: (joinC (l.map tx) ++ [125]) := tx_tuple
theorem tb_listT : ∀ l : List Tm, tb (listT l) = (if l = [] then [] else 44 :: joinC (l.map tx)) ++ [93]
  | [] => tb_nil
  | t :: l => by
    have ih := tb_listT l
    show tb (consT t (listT l)) = _
    unfold consT
    rw [tb_cons, ih]
    cases l with
    | nil => simp [joinC]
    | cons u l => simp [joinC]
theorem tx_listT (l : List Tm) : tx (listT l) = 91 :: (joinC (l.map tx) ++ [93]) := by
  cases l with
  | nil =>
    show tx nilT = _
    unfold nilT
    rw [tx_leaf (by decide) (by decide)]
    simp [leafX, joinC]
  | cons t l =>
    have ih := tb_listT l
    show tx (consT t (listT l)) = _
    unfold consT
    rw [tx_cons, ih]
    cases l with
    | nil => simp [joinC]
    | cons u l => simp [joinC]
/-- what Print answers of a list, of a tuple, of few terms that may be and are not long -/
theorem lists_print {l : List Tm} (hl : l.length ≤ 20) (h : ∀ t ∈ l, mayB t = true) (hok : ∀ t ∈ l, ∀ p ∈ parts t, p.ok1) (hs : (joinC (l.map tx)).length ≤ 60000) :
    prE (listT l) = 0 ∧ prE (tupT l) = 0 ∧ prS (listT l) = 91 :: (joinC (l.map tx) ++ [93]) ∧ prS (tupT l) = 123 :: (joinC (l.map tx) ++ [125]) := by
  have hp := join_ge l (fun t ht => (parts_le _ t (Nat.le_refl _) (may_fair (h t ht)) (fun p hp => okX_fair p (hok t ht p hp) (may_fair (h t ht) p hp))).1)
  have m1 := may_listT h (by omega)
  have m2 := may_tupT (by omega) h (by omega)
  have l1 : (tx (listT l)).length ≤ 65536 := by rw [tx_listT]; simp; omega
  have l2 : (tx (tupT l)).length ≤ 65536 := by rw [tx_tupT]; simp; omega
  unfold prE prS
  rw [m1, m2]
  simp only [if_true, if_pos l1, if_pos l2]
  exact ⟨trivial, trivial, tx_listT l, tx_tupT l⟩
end Go.Proofs.YtjacoodfhkaioaaGreatDoor
