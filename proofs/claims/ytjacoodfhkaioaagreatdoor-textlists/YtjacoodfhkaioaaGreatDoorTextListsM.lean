/- A term has no more parts than its text has bytes. -/
import Derived.Test.YtjacoodfhkaioaaGreatDoorChV
namespace Go.Proofs.YtjacoodfhkaioaaGreatDoor
open Go.ChangeShapes Go.WideShapes Go.ChangeAt Go.RowKit Go.Shelf
set_option linter.unusedSimpArgs false
set_option linter.unusedVariables false
set_option maxRecDepth 2000

theorem txt_ge1 (Z : Int) : 1 ≤ (txt Z).length := by
  unfold txt txtN
  rw [List.length_map]
  split
  · simp
  · rename_i hz
    have : (glim 10 Z.natAbs).length ≠ 0 := by
      intro h
      have h1 := gval_glim (b := 10) (by omega) Z.natAbs
      rw [List.eq_nil_of_length_eq_zero h] at h1
      simp [gval] at h1
      omega
    simp only [List.length_reverse, List.length_append, List.length_map]
    omega
theorem quote_pos {l : List UInt8} (h : Lib.validD l = true) : 1 ≤ (quoteL l).length := by
  unfold quoteL
  rw [if_pos h]
  split
  · rename_i hp
    unfold plainB at hp
    rw [Bool.and_eq_true] at hp
    have := of_decide_eq_true hp.2
    cases l with
    | nil => exact absurd rfl this
    | cons x t => simp
  · have e : en (quoteR (sg l)) = e1 39 ++ en (escs (sg l) ++ [39]) := by
      unfold quoteR
      rw [← en_one 39, ← en_append]; rfl
    have h1 := e1_length 39
    rw [e, List.length_append]
    omega
theorem leaf_pos {k : Int} {neg : Bool} {d : List Nat} {nm : ByteArray} {n : Int} {l : List Tm} {b : List Nat} (h : fairB (.mk k neg d nm n l b) = true) : 1 ≤ (leafX k neg d nm n b).length := by
  unfold fairB at h
  rw [Bool.and_eq_true] at h
  have h2 := h.2
  unfold leafX
  by_cases h0 : k = 0
  · rw [if_pos h0]; exact txt_ge1 _
  · rw [if_neg h0]
    by_cases h1 : k = 1
    · rw [if_pos h1]
      subst h1
      refine quote_pos ?_
      unfold withinB at h2
      simp only [] at h2
      rw [if_neg h0, if_pos trivial, Bool.and_eq_true] at h2
      have h3 := of_decide_eq_true h2.1
      unfold countZ at h3
      split at h3
      · assumption
      · omega
    · rw [if_neg h1]
      repeat' split
      all_goals simp
theorem join_ge : ∀ (l : List Tm), (∀ t ∈ l, (parts t).length ≤ (tx t).length) → (partsL l).length ≤ (joinC (l.map tx)).length
  | [], _ => by simp [partsL]
  | [t], h => by
    have := h t (by simp)
    simp [joinC, partsL]; omega
  | t :: u :: l, h => by
    have ih := join_ge (u :: l) (fun x hx => h x (List.mem_cons_of_mem _ hx))
    have := h t (by simp)
    have e : (partsL (t :: u :: l)).length = (parts t).length + (partsL (u :: l)).length := by simp [partsL]
    simp only [List.map_cons, joinC, List.length_append, List.length_cons] at ih ⊢
    rw [e]
    omega
theorem parts_le : ∀ (N : Nat) (T : Tm), (parts T).length ≤ N → (∀ p ∈ parts T, fairB p = true) → okXs T → (parts T).length ≤ (tx T).length ∧ (parts T).length ≤ (tb T).length := by
  intro N
  induction N with
  | zero => intro T h; have := parts_pos T; omega
  | succ N ih =>
    intro T hN hf hok
    have hX := hok.self
    have hfs := hf T (self_parts T)
    cases T with | mk k neg d nm n l b =>
    obtain ⟨k0, k7, _, _, _, x4, x6, _⟩ := id hX
    by_cases h4 : k = 4
    · subst h4
      have hkids : (Tm.mk 4 neg d nm n l b).kids = l := by show (if (4 : Int) = 4 ∨ (4 : Int) = 6 then l else []) = l; rw [if_pos (.inl rfl)]
      have hpl := kids_mem hkids
      have h1 := join_ge l (fun t ht => by
        have hm : t ∈ (Tm.mk 4 neg d nm n l b).kids := by rw [hkids]; exact ht
        have := parts_kid hm
        exact (ih t (by omega) (fun p hp => hf p (by rw [parts_eq]; exact List.mem_cons_of_mem _ (mem_parts_of hp hm))) (hok.kid hm)).1)
      have e : (parts (.mk 4 neg d nm n l b)).length ≤ (tx (.mk 4 neg d nm n l b)).length := by
        rw [tx_tuple, hpl]
        simp only [List.length_cons, List.length_append, List.length_nil]
        omega
      refine ⟨e, ?_⟩
      rw [tb_other (T := .mk 4 neg d nm n l b) (by show (4 : Int) ≠ 5; decide) (by show (4 : Int) ≠ 6; decide)]
      simp only [List.length_cons, List.length_append, List.length_nil]
      omega
    · by_cases h6 : k = 6
      · subst h6
        obtain ⟨H, T, rfl⟩ := pair_of (x6 rfl)
        have hkids : (Tm.mk 6 neg d nm n [H, T] b).kids = [H, T] := by show (if (6 : Int) = 4 ∨ (6 : Int) = 6 then [H, T] else []) = [H, T]; rw [if_pos (.inr rfl)]
        have hpl := kids_mem hkids
        have e : (partsL [H, T]).length = (parts H).length + (parts T).length := by simp [partsL]
        have hH : H ∈ (Tm.mk 6 neg d nm n [H, T] b).kids := by rw [hkids]; simp
        have hT : T ∈ (Tm.mk 6 neg d nm n [H, T] b).kids := by rw [hkids]; simp
        have h1 := (ih H (by have := parts_kid hH; omega) (fun p hp => hf p (by rw [parts_eq]; exact List.mem_cons_of_mem _ (mem_parts_of hp hH))) (hok.kid hH)).1
        have h2 := (ih T (by have := parts_kid hT; omega) (fun p hp => hf p (by rw [parts_eq]; exact List.mem_cons_of_mem _ (mem_parts_of hp hT))) (hok.kid hT)).2
        rw [hpl, e, tx_cons, tb_cons]
        simp only [List.length_cons, List.length_append]
        omega
      · have hp1 : (parts (.mk k neg d nm n l b)).length = 1 := by
          rw [kids_mem (T := .mk k neg d nm n l b) (l := []) (by show (if k = 4 ∨ k = 6 then l else []) = []; rw [if_neg (by omega)])]
          simp [partsL]
        rw [hp1, tx_leaf h4 h6]
        refine ⟨leaf_pos hfs, ?_⟩
        by_cases h5 : k = 5
        · subst h5; rw [tb_nil]; simp
        · rw [tb_other (T := .mk k neg d nm n l b) h5 h6]
          simp
end Go.Proofs.YtjacoodfhkaioaaGreatDoor
