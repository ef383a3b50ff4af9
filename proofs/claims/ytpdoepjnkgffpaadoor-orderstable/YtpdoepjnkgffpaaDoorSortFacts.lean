/- What the statements on sorted rows ask. -/
import Derived.Test.YtpdoepjnkgffpaaDoorSortRef
import Derived.Test.YtpdoepjnkgffpaaDoorRSame
import Derived.Test.YtpdoepjnkgffpaaDoorOrdFacts
namespace Go.Proofs.YtpdoepjnkgffpaaDoor
open Go.ChangeShapes Go.WideShapes Go.ChangeAt Go.ChangeMaps Go.RowKit Go.Shelf
set_option linter.unusedSimpArgs false
set_option linter.unusedVariables false
set_option maxRecDepth 2000
/-- the i-th term of a row at a block's begin -/
theorem TR.get0 {w : World} {l : List Tm} {g i : Nat} {t : Tm} (h : TR (Low w) w l (some ⟨g, 0, none⟩)) (ht : l[i]? = some t) :
    ∃ xk xneg xod xld xcd xnm xn xol xll xcl xob xlb xcb, TV (Low w) w t (tmV xk xneg (.slice xod xld xcd) xnm xn (.slice xol xll xcl) (.slice xob xlb xcb)) ∧ w.cell? ⟨g, i * 7, none⟩ = some (.int .i64 xk) ∧ w.cell? ⟨g, i * 7 + 1, none⟩ = some (.bool xneg) ∧ w.cell? ⟨g, i * 7 + 2, none⟩ = some (.slice xod xld xcd) ∧ w.cell? ⟨g, i * 7 + 3, none⟩ = some (.string xnm) ∧ w.cell? ⟨g, i * 7 + 4, none⟩ = some (.int .i64 xn) ∧ w.cell? ⟨g, i * 7 + 5, none⟩ = some (.slice xol xll xcl) ∧ w.cell? ⟨g, i * 7 + 6, none⟩ = some (.slice xob xlb xcb) := by
  obtain ⟨a, xk, xneg, xod, xld, xcd, xnm, xn, xol, xll, xcl, xob, xlb, xcb, e, hT, y0, y1, y2, y3, y4, y5, y6⟩ := h.get ht (Below.refl _ _)
  obtain rfl := Option.some.inj e
  rw [addr_add, Nat.zero_add] at y0
  refine ⟨xk, xneg, xod, xld, xcd, xnm, xn, xol, xll, xcl, xob, xlb, xcb, hT, y0, ?_, ?_, ?_, ?_, ?_, ?_⟩
  all_goals first | (simpa [addr_add] using y1) | (simpa [addr_add] using y2) | (simpa [addr_add] using y3) | (simpa [addr_add] using y4) | (simpa [addr_add] using y5) | (simpa [addr_add] using y6)
abbrev OkT (t : Tm) : Prop := wfT t ∧ dep t ≤ 1000000 ∧ (parts t).length ≤ 500000 ∧ ∀ p ∈ parts t, p.ok1 ∧ fairB p = true
theorem rooms_all {w : World} {l : List Tm} {o : Option Addr} (hT : TR (Low w) w l o) (h : l.all okRow = true) : ∀ t ∈ l, OkT t := fun t ht => by
  obtain ⟨h1, h2, h3⟩ := rooms_facts hT h
  have h4 := rooms_wf hT h t ht
  have h5 := h3 t ht
  exact ⟨h4.1, h4.2.1, by omega, fun p hp => h1 p (mem_partsL' ht hp)⟩
theorem okT_sort {l : List Tm} (h : ∀ t ∈ l, OkT t) : ∀ t ∈ isort l, OkT t := fun t ht => h t ((isort_mem t l).1 ht)
theorem okT_parts {l : List Tm} (h : ∀ t ∈ l, OkT t) : ∀ p ∈ partsL l, p.ok1 := fun p hp => by
  induction l with
  | nil => simp [partsL] at hp
  | cons t l ih =>
    simp only [partsL, List.mem_append] at hp
    rcases hp with hp | hp
    · exact ((h t (by simp)).2.2.2 p hp).1
    · exact ih (fun t ht => h t (by simp [ht])) hp
theorem okT_wf {l : List Tm} (h : ∀ t ∈ l, OkT t) : wfA l := fun t ht => (h t ht).1
theorem sameL_of : ∀ {l l' : List Tm}, sameA l l' → sameL l l' = true
  | [], [], _ => rfl
  | [], _ :: _, h => by simp [sameA] at h
  | _ :: _, [], h => by simp [sameA] at h
  | t :: l, t' :: l', h => by
    unfold sameL
    rw [h.1, sameL_of h.2]
    rfl
theorem sameL_id {l : List Tm} (h : wfA l) : sameL l l = true := sameL_of (sameA_self l h)
end Go.Proofs.YtpdoepjnkgffpaaDoor
