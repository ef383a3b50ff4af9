/- Texts and bytes that came in, opened. -/
import Derived.Test.YtibgdncfahffpaaDoorAtomsLaid
import Derived.Test.YtibgdncfahffpaaDoorAtomsAwake
import Derived.Deep.Strs
import Derived.ChangeSlices
import Derived.ChangeMaps5
namespace Go.Proofs.YtibgdncfahffpaaDoor
open Go.ChangeShapes Go.WideShapes Go.ChangeAt Go.ChangeMaps Go.RowKit Go.Shelf
set_option linter.unusedSimpArgs false
set_option linter.unusedVariables false
/-- texts in memory -/
def LiesS (o : Option Addr) (l : List ByteArray) (w : World) : Prop := ∀ (j : Nat) (s : ByteArray), l[j]? = some s → ∃ a, o = some a ∧ w.cell? (a.add j) = some (.string s)
theorem LiesS.below {o : Option Addr} {l : List ByteArray} {w w' : World} (h : LiesS o l w) (hb : Below w.heap.size w w') : LiesS o l w' := fun j x hx => by
  obtain ⟨a, ha, hc⟩ := h j x hx
  exact ⟨a, ha, (hb.cell (World.block_lt_of_cell? _ _ hc)).trans hc⟩
/-- bytes in memory -/
def LiesU (o : Option Addr) (l : List Nat) (w : World) : Prop := ∀ (j x : Nat), l[j]? = some x → ∃ a, o = some a ∧ w.cell? (a.add j) = some (.int .u8 (x : Int))
theorem LiesU.below {o : Option Addr} {l : List Nat} {w w' : World} (h : LiesU o l w) (hb : Below w.heap.size w w') : LiesU o l w' := fun j x hx => by
  obtain ⟨a, ha, hc⟩ := h j x hx
  exact ⟨a, ha, (hb.cell (World.block_lt_of_cell? _ _ hc)).trans hc⟩
theorem oneS : Tryd.prog.cellsOf 9 = 1 := by kernel_rfl
theorem oneU : Tryd.prog.cellsOf 5 = 1 := by kernel_rfl
theorem open_texts {H : Type} {enc : TypeId × Value → H} {base : Nat} {w : World} {v : Value} {d : DataW H} {p : List MemPlace} (o0 : Value.okWide Tryd.prog w Reach.any base 32 v) (h0 : DataW.Trod enc Tryd.prog w 0 (fun _ => true) true 32 v d p) :
    ∃ (o : Option Addr) (l : List ByteArray) (c : Nat), v = .slice o l.length c ∧ LiesS o l w ∧ l.length ≤ c ∧ l.length ≤ maxLen ∧ ∀ s ∈ l, s.size ≤ maxLen := by
  obtain ⟨a, len, cap, rfl⟩ := okWide_slice Tryd.underlying32 o0
  obtain ⟨m, hm⟩ := h0
  rcases Deep.open_strs Tryd.underlying32 Tryd.underlying9 oneS hm with ⟨e, _⟩ | ⟨ad, len', cap', k, Sx, e, _, hl, hc, hk, _, hx⟩
  · simp [Value.cells] at e
    obtain ⟨rfl, rfl, rfl⟩ := e
    exact ⟨none, [], 0, rfl, fun j s hs => by simp at hs, Nat.le_refl _, Nat.zero_le _, by simp⟩
  · simp [Value.cells] at e
    obtain ⟨rfl, rfl, rfl⟩ := e
    simp only [if_true] at hk
    subst hk
    refine ⟨some ad, (List.range len).map Sx, k, by simp, fun j s hs => ⟨ad, rfl, ?_⟩, by simpa using hl, by simp; omega, ?_⟩
    · rw [List.getElem?_map] at hs
      cases hj : (List.range len)[j]? with
      | none => rw [hj] at hs; simp at hs
      | some y =>
        rw [hj] at hs
        obtain ⟨hjl, rfl⟩ := List.getElem?_eq_some_iff.1 hj
        simp at hs hjl
        subst hs
        exact (hx j (by omega)).1
    · intro s hs
      simp at hs
      obtain ⟨y, hy, rfl⟩ := hs
      exact (hx y (by omega)).2
theorem open_u8s {H : Type} {enc : TypeId × Value → H} {base : Nat} {w : World} {v : Value} {d : DataW H} {p : List MemPlace} (o0 : Value.okWide Tryd.prog w Reach.any base 41 v) (h0 : DataW.Trod enc Tryd.prog w 0 (fun _ => true) true 41 v d p) :
    ∃ (o : Option Addr) (l : List Nat) (c : Nat), v = .slice o l.length c ∧ LiesU o l w ∧ l.length ≤ c ∧ l.length ≤ maxLen ∧ ∀ x ∈ l, x < 256 := by
  obtain ⟨a, len, cap, rfl⟩ := okWide_slice Tryd.underlying41 o0
  obtain ⟨m, hm⟩ := h0
  rcases open_ints Tryd.underlying41 Tryd.underlying5 oneU hm with ⟨e, _⟩ | ⟨ad, len', cap', zs, e, _, hl, hc, hk, _, hx, hwf⟩
  · simp [Value.cells] at e
    obtain ⟨rfl, rfl, rfl⟩ := e
    exact ⟨none, [], 0, rfl, fun j s hs => by simp at hs, Nat.le_refl _, Nat.zero_le _, by simp⟩
  · simp [Value.cells] at e
    obtain ⟨rfl, rfl, rfl⟩ := e
    simp only [if_true] at hk
    have hbd : ∀ x ∈ zs, 0 ≤ x ∧ x < 256 := fun x hx => by
      have := hwf x hx
      simp [Lit.wf, IntKind.min, IntKind.max, IntKind.bits, IntKind.signed] at this
      omega
    have hll : ((zs.map Int.toNat).take len).length = len := by rw [List.length_take, List.length_map]; omega
    refine ⟨some ad, (zs.map Int.toNat).take len, cap, by rw [hll], fun j x hj => ⟨ad, rfl, ?_⟩, by omega, by omega, ?_⟩
    · rw [List.getElem?_take] at hj
      split at hj
      · rename_i hjl
        rw [List.getElem?_map] at hj
        cases hz : zs[j]? with
        | none => rw [hz] at hj; simp at hj
        | some z =>
          rw [hz] at hj
          simp only [Option.map_some, Option.some.injEq] at hj
          have hjz : j < zs.length := (List.getElem?_eq_some_iff.1 hz).1
          have hzz := hbd z (List.mem_of_getElem? hz)
          rw [hx j hjz]
          have : zs.getD j 0 = z := by simp [List.getD, hz]
          rw [this, ← hj]
          congr 2; omega
      · simp at hj
    · intro x hx
      have hx' := List.mem_of_mem_take hx
      obtain ⟨z, hz, rfl⟩ := List.mem_map.1 hx'
      have := hbd z hz
      omega
end Go.Proofs.YtibgdncfahffpaaDoor
