/- What the statements' own look at their terms says. -/
import Derived.Test.YtpdoepjnkgffpaaDoorOrdLaid
namespace Go.Proofs.YtpdoepjnkgffpaaDoor
open Go.ChangeShapes Go.WideShapes Go.ChangeAt Go.ChangeMaps Go.RowKit Go.Shelf
set_option linter.unusedSimpArgs false
set_option linter.unusedVariables false
set_option maxRecDepth 2000
/-- what Rooms says of the terms of a row -/
theorem rooms_facts {w : World} {l : List Tm} {o : Option Addr} (hT : TR (Low w) w l o) (h : l.all okRow = true) :
    (∀ p ∈ partsL l, p.ok1 ∧ fairB p = true) ∧ depL l ≤ 9 ∧ ∀ t ∈ l, (parts t).length ≤ 65536 := by
  rw [List.all_eq_true] at h
  have h1 : ∀ t ∈ l, (∀ p ∈ parts t, p.ok1 ∧ fairB p = true) ∧ dep t ≤ 9 ∧ (parts t).length ≤ 65536 := fun t ht => by
    have h2 := h t ht
    unfold okRow at h2
    rw [Bool.and_eq_true] at h2
    obtain ⟨v, hv⟩ := hT.mem ht
    obtain ⟨g1, g2⟩ := room_ok (by omega) t v 8 hv h2.1
    obtain ⟨g3, g4⟩ := may_parts h2.2
    exact ⟨fun p hp => ⟨g1 p hp, g4 p hp⟩, by omega, g3⟩
  clear h hT
  refine ⟨?_, ?_, fun t ht => (h1 t ht).2.2⟩
  · intro p hp
    induction l with
    | nil => simp [partsL] at hp
    | cons t l ih =>
      simp only [partsL, List.mem_append] at hp
      rcases hp with hp | hp
      · exact (h1 t (by simp)).1 p hp
      · exact ih (fun t ht => h1 t (by simp [ht])) hp
  · induction l with
    | nil => simp [depL]
    | cons t l ih =>
      simp only [depL]
      have := (h1 t (by simp)).2.1
      have := ih (fun t ht => h1 t (by simp [ht]))
      omega
theorem okO_fair (T : Tm) (h1 : T.ok1) (h : fairB T = true) : okO T := by
  cases T with | mk k neg d nm n l b =>
  unfold fairB at h
  rw [Bool.and_eq_true] at h
  obtain ⟨h2, h3⟩ := h
  unfold leanB at h2
  unfold withinB at h3
  dsimp only at h3
  by_cases k0 : k = 0
  · exact ⟨by omega, by omega, fun e => by omega, fun e => by omega, h1⟩
  by_cases k1 : k = 1
  · refine ⟨by omega, by omega, fun e => by omega, fun e => ?_, h1⟩
    rw [if_neg k0, if_pos k1, Bool.and_eq_true] at h3
    have h4 := of_decide_eq_true h3.1
    unfold countZ at h4
    cases hv : Lib.validD nm.data.toList
    · rw [hv] at h4; simp at h4
    · rfl
  by_cases k2 : k = 2
  · exact ⟨by omega, by omega, fun e => by omega, fun e => by omega, h1⟩
  by_cases k3 : k = 3
  · exact ⟨by omega, by omega, fun e => by omega, fun e => by omega, h1⟩
  by_cases k4 : k = 4
  · exact ⟨by omega, by omega, fun e => by omega, fun e => by omega, h1⟩
  by_cases k6 : k = 6
  · refine ⟨by omega, by omega, fun e => ?_, fun e => by omega, h1⟩
    rw [if_neg k0, if_neg k1, if_neg (by omega), if_neg k4, if_pos k6] at h3
    have := (beq_iff_eq.1 h3)
    omega
  by_cases k7 : k = 7
  · exact ⟨by omega, by omega, fun e => by omega, fun e => by omega, h1⟩
  have h5 : k = 5 := by
    have e : prT (.mk k neg d nm n l b) = .mk 5 false [] noS 0 [] [] := by simp [prT, k0, k1, k2, k3, k4, k6, k7]
    rw [e] at h2
    unfold eqF at h2
    simp only [Bool.and_eq_true, decide_eq_true_eq] at h2
    exact h2.1.1.1.1.1.1
  exact ⟨by omega, by omega, fun e => by omega, fun e => by omega, h1⟩
theorem dep_mem {l : List Tm} {t : Tm} (h : t ∈ l) : dep t ≤ depL l := by
  induction l with
  | nil => simp at h
  | cons x l ih =>
    simp only [depL]
    rcases List.mem_cons.1 h with rfl | h
    · omega
    · have := ih h; omega
theorem mem_partsL' {l : List Tm} {t p : Tm} (h : t ∈ l) (hp : p ∈ parts t) : p ∈ partsL l := by
  obtain ⟨i, hi⟩ := List.getElem?_of_mem h
  exact mem_partsL hi hp
/-- what Rooms says of a row: its terms have their order -/
theorem rooms_wf {w : World} {l : List Tm} {o : Option Addr} (hT : TR (Low w) w l o) (h : l.all okRow = true) : ∀ t ∈ l, wfT t ∧ dep t ≤ 1000000 ∧ (∀ p ∈ parts t, p.ok1) := by
  obtain ⟨h1, h2, _⟩ := rooms_facts hT h
  intro t ht
  refine ⟨fun p hp => okO_fair p (h1 p (mem_partsL' ht hp)).1 (h1 p (mem_partsL' ht hp)).2, ?_, fun p hp => (h1 p (mem_partsL' ht hp)).1⟩
  have := dep_mem ht
  omega
theorem cz_range (x y : Int) : -1 ≤ cmpZ x y ∧ cmpZ x y ≤ 1 := by
  unfold cmpZ
  by_cases h1 : x < y
  · simp [h1]
  · by_cases h2 : y < x
    · simp [h1, h2]
    · simp [h1, h2]
theorem lx_range {x y : Int} (hx : -1 ≤ x ∧ x ≤ 1) (hy : -1 ≤ y ∧ y ≤ 1) : -1 ≤ lx x y ∧ lx x y ≤ 1 := by
  unfold lx; split
  · exact hx
  · exact hy
theorem lex_range : ∀ a b : List Nat, -1 ≤ lexZ a b ∧ lexZ a b ≤ 1
  | [], [] => by decide
  | [], _ :: _ => by show (-1 : Int) ≤ -1 ∧ (-1 : Int) ≤ 1; decide
  | _ :: _, [] => by show (-1 : Int) ≤ 1 ∧ (1 : Int) ≤ 1; decide
  | x :: xs, y :: ys => by rw [lexZ_cons]; exact lx_range (cz_range _ _) (lex_range xs ys)
theorem cmpB_range : ∀ a b : List UInt8, -1 ≤ Lib.compareBytes a b ∧ Lib.compareBytes a b ≤ 1
  | [], [] => by decide
  | [], _ :: _ => by show (-1 : Int) ≤ -1 ∧ (-1 : Int) ≤ 1; decide
  | _ :: _, [] => by show (-1 : Int) ≤ 1 ∧ (1 : Int) ≤ 1; decide
  | x :: xs, y :: ys => by
    unfold Lib.compareBytes
    split
    · decide
    · split
      · decide
      · exact cmpB_range xs ys
theorem less_range (a b : List UInt8) : -1 ≤ lessZ a b ∧ lessZ a b ≤ 1 := by
  unfold lessZ; split
  · exact lex_range _ _
  · exact cmpB_range _ _
mutual
theorem cT_range : ∀ (a b : Tm), -1 ≤ cT a b ∧ cT a b ≤ 1
  | .mk k neg d nm n l b, .mk k' neg' d' nm' n' l' b' => by
    rw [cT]
    refine lx_range (cz_range _ _) ?_
    by_cases h0 : k = 0
    · rw [if_pos h0]; exact cz_range _ _
    rw [if_neg h0]
    by_cases h1 : k = 1
    · rw [if_pos h1]; exact less_range _ _
    rw [if_neg h1]
    by_cases h2 : k = 2 ∨ k = 3
    · rw [if_pos h2]; exact cz_range _ _
    rw [if_neg h2]
    by_cases h7 : k = 7
    · rw [if_pos h7]; exact lex_range _ _
    rw [if_neg h7]
    by_cases h4 : k = 4 ∨ k = 6
    · rw [if_pos h4]; exact lx_range (cz_range _ _) (cR_range l l')
    rw [if_neg h4]; decide
theorem cR_range : ∀ (l l' : List Tm), -1 ≤ cR l l' ∧ cR l l' ≤ 1
  | [], l' => by rw [cR_nil]; decide
  | t :: l, [] => by rw [cR_nil']; decide
  | t :: l, t' :: l' => by rw [cR_cons]; exact lx_range (cT_range t t') (cR_range l l')
end
/-- two terms in a row of two -/
theorem tr_pair {w : World} {A U : Tm} {a0 a1 a2 a3 a4 a5 a6 b0 b1 b2 b3 b4 b5 b6 : Value} {g : Nat} {t : TypeId} (hg : w.heap[g]? = some (.cells #[a0, a1, a2, a3, a4, a5, a6, b0, b1, b2, b3, b4, b5, b6] t (0, 0))) (hA : TV (Low w) w A (.agg #[a0, a1, a2, a3, a4, a5, a6])) (hU : TV (Low w) w U (.agg #[b0, b1, b2, b3, b4, b5, b6])) : TR (Low w) w [A, U] (some ⟨g, 0, none⟩) := by
  have hl : g < w.heap.size := (Array.getElem?_eq_some_iff.1 hg).1
  have hc : ∀ j, w.cell? ⟨g, j, none⟩ = (#[a0, a1, a2, a3, a4, a5, a6, b0, b1, b2, b3, b4, b5, b6] : Array Value)[j]? := fun j => by simp [World.cell?, hg]
  unfold TR
  refine ⟨_, _, rfl, hl, ⟨_, _, _, _, _, _, _, rfl, hc 0, hc 1, hc 2, hc 3, hc 4, hc 5, hc 6⟩, hA, ?_⟩
  unfold TR
  refine ⟨_, _, rfl, hl, ⟨_, _, _, _, _, _, _, rfl, hc 7, hc 8, hc 9, hc 10, hc 11, hc 12, hc 13⟩, hU, ?_⟩
  unfold TR
  trivial
end Go.Proofs.YtpdoepjnkgffpaaDoor
