/- What waits: two rows more. -/
import Derived.Test.YtgaecjocolihjaaDoorOrdKit
namespace Go.Proofs.YtgaecjocolihjaaDoor
open Go.ChangeShapes Go.WideShapes Go.ChangeAt Go.RowKit Go.Shelf
set_option linter.unusedSimpArgs false
set_option linter.unusedVariables false
theorem infoP : (Tryd.prog.info? 69).map (fun i => (i.zero, i.size, i.bytes)) = some (some (.agg #[.slice none 0 0, .slice none 0 0]), 2, 48) := by kernel_rfl
set_option maxHeartbeats 1000000 in
theorem wait_none (g : Nat) (oa : Option Addr) (ca : Nat) (ob : Option Addr) (cb : Nat) (w : World) (la lb : Nat) (ha : la = 0) (hb : lb = 0) :
    Calls Tryd.prog 57 #[.pointer (some ⟨g, 0, none⟩), .slice oa la ca, .slice ob lb cb] w fun e w' => (∃ v, e = .returned v) ∧ w' = w := by
  subst ha
  subst hb
  go_enter Tryd.func57, Tryd.ntmps57
  go_wp2
  all_goals go_end0
  all_goals exact ⟨⟨_, rfl⟩, rfl⟩
set_option maxHeartbeats 2000000 in
theorem wait_w (B g : Nat) (a0 a1 a2 a3 a4 a5 a6 b0 b1 b2 b3 b4 b5 b6 v : Value) (m : Nat) (xs : List Value) (oa : Option Addr) (la ca : Nat) (ob : Option Addr) (lb cb : Nat) (w : World)
    (hB : B ≤ g) (hW : WkO g a0 a1 a2 a3 a4 a5 a6 b0 b1 b2 b3 b4 b5 b6 v w) (hO : w.ownsRow B 69 2 v m xs) (hm : m ≤ 1000001) (hl : 0 < la) :
    Calls Tryd.prog 57 #[.pointer (some ⟨g, 0, none⟩), .slice oa la ca, .slice ob lb cb] w fun e w' => (∃ v, e = .returned v) ∧ ∃ v', WkO g a0 a1 a2 a3 a4 a5 a6 b0 b1 b2 b3 b4 b5 b6 v' w' ∧ w'.ownsRow B 69 2 v' (m + 1) (xs ++ [.slice oa la ca, .slice ob lb cb]) ∧ Kept (fun k => k = g ∨ v.ownBlock = some k) w w' := by
  obtain ⟨i0, hi, hz⟩ := Option.map_eq_some_iff.1 infoP
  injection hz with hz0 hz
  injection hz with hz1 hz2
  have hlt : (0 : Int) < (la : Int) := by omega
  have hgl := hW.lt
  have hcv := hW.rv
  have hfr := hW.fr
  have hne : ∀ k, v.ownBlock = some k → k ≠ g := fun k hk e => by
    obtain ⟨_, _, _, _, _, h⟩ := own_shape2 hO
    obtain ⟨_, _, cur, hc⟩ := h k hk
    subst e
    unfold WkO at hW
    rw [hW] at hc
    simp at hc
  have hHO := hid (hO.alloc (.cells #[.slice oa la ca, .slice ob lb cb] 69))
  have hWa := hW.below ((Below.refl _ w).alloc (Nat.le_refl _) (.cells #[.slice oa la ca, .slice ob lb cb] 69))
  have hHn := hid hne
  clear hne hO
  go_enter Tryd.func57, Tryd.ntmps57
  go_wp2_with (at_builtin; refine wpList_append_own _ rfl _ _ 63 rfl B 69 i0 (.agg #[.slice none 0 0, .slice none 0 0]) 2 48 Tryd.underlying63 hi hz0 hz1 hz2 rfl (by decide) _ _ _ rfl hHO.out ⟨w.heap.size, 0, none⟩ 1 1 [.slice oa la ca, .slice ob lb cb] rfl ?c1 ?c2 ?c3 ?c4 ?c5 ?c6 ?_)
  case c1 => rfl
  case c2 =>
    intro j u hj
    match j, hj with
    | 0, hj =>
      simp only [List.getElem?_cons_zero, Option.some.injEq] at hj
      subst hj
      rw [add_zero, World.cell?_alloc_mark]; rfl
    | 1, hj =>
      simp only [List.getElem?_cons_zero, List.getElem?_cons_succ, Option.some.injEq] at hj
      subst hj
      show World.cell? _ ⟨w.heap.size, 0 + 1, none⟩ = _
      rw [World.cell?_alloc_mark]; rfl
    | (j + 2), hj => simp at hj
  case c3 =>
    intro u hu
    simp only [List.mem_cons, List.not_mem_nil, or_false] at hu
    rcases hu with rfl | rfl <;> rfl
  case c4 => unfold maxLen; omega
  case c5 => omega
  case c6 => simp; omega
  intro v' w1 hown hgrow hnil
  obtain ⟨o5, c5, rfl, _⟩ := own_shape2 hown
  have hk1 : Kept (fun k => v.ownBlock = some k) w w1 := (Kept.of_alloc w _).trans (Kept.of_grown hgrow (fun k hk => hk))
  have hW1 := hW.of_block (hk1.block g hgl (fun hv => hHn.out g hv rfl))
  have hf1 := hW1.fr
  have hc1 := hW1.rv
  have hW2 := hW1.setv (.slice o5 (m + 1) c5)
  have ho2 := only_set w1 g 14 (.slice o5 (m + 1) c5)
  clear hcv hfr hnil hW hWa
  have hne' : ∀ k, Value.ownBlock (.slice o5 (m + 1) c5) = some k → k ≠ g := fun k hk e => by
    obtain ⟨_, _, _, _, _, h⟩ := own_shape2 hown
    obtain ⟨_, _, cur, hc⟩ := h k hk
    subst e
    unfold WkO at hW1
    rw [hW1] at hc
    simp at hc
  have hown2 := own_block hown (fun k hk => ho2.2.2 k (hne' k hk))
  have hHx := hid hown2
  have hHn' := hid hne'
  clear hown hown2 hne'
  go_wp2
  go_end0
  exact ⟨⟨_, rfl⟩, _, hW2, hHx.out, (hk1.mono fun k hk => Or.inr hk).then (Kept.of_only ho2) (fun i hi => .inl (.inl hi))⟩
end Go.Proofs.YtgaecjocolihjaaDoor
