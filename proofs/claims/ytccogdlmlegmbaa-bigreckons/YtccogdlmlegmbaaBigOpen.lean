/- a number that came in, opened. -/
import Derived.Test.YtccogdlmlegmbaaBigAwake
import Derived.Lib.SmallJoins
import Derived.ChangeSlices
namespace Go.Proofs.Ytccogdlmlegmbaa
open Go.ChangeShapes Go.WideShapes Go.ChangeAt Go.ChangeMaps Go.RowKit
set_option linter.unusedSimpArgs false
set_option linter.unusedVariables false
theorem one34 : Try.prog.cellsOf 63 = 1 := by kernel_rfl
theorem two34 : Try.prog.cellsOf 34 = 2 := by kernel_rfl
theorem open_num {H : Type} {enc : TypeId × Value → H} {base : Nat} {w : World} {v : Value} {d : DataW H} {p : List MemPlace} (o0 : Value.okWide Try.prog w Reach.any base 34 v) (h0 : DataW.Trod enc Try.prog w 0 (fun _ => true) true 34 v d p) :
    ∃ (neg : Bool) (o : Option Addr) (l : List Nat) (c : Nat), v = .agg #[.bool neg, .slice o l.length c] ∧ Lies o l w ∧ l.length ≤ c ∧ Lm 4294967296 l ∧ l.length ≤ maxLen := by
  obtain ⟨v0, v1, y0, y1, n, rfl, rfl, rfl, t0, t1⟩ := Go.Joins.open_agg2 Try.underlying34 (by kernel_rfl) two34 o0 h0
  obtain ⟨b, e0, _⟩ := DataW.trod_bool Try.underlying4 t0
  simp only [List.cons.injEq, and_true] at e0
  subst e0
  rcases open_ints Try.underlying23 Try.underlying63 one34 t1 with ⟨e1, _⟩ | ⟨a, len, cap, zs, e1, _, hlc, hcm, hzl, _, hcell, hwf⟩
  · simp only [List.cons.injEq, and_true] at e1
    subst e1
    exact ⟨b, none, [], 0, rfl, fun j x hx => by simp at hx, by simp, Lm.nil _, by simp [maxLen]⟩
  · simp only [List.cons.injEq, and_true] at e1
    subst e1
    simp only [if_true] at hzl
    have hbd : ∀ x ∈ zs, 0 ≤ x ∧ x < 4294967296 := fun x hx => by
      have := hwf x hx
      simp [Lit.wf, IntKind.min, IntKind.max, IntKind.bits, IntKind.signed] at this
      omega
    have hll : ((zs.map Int.toNat).take len).length = len := by rw [List.length_take, List.length_map]; omega
    refine ⟨b, some a, (zs.map Int.toNat).take len, cap, by rw [hll], fun j x hx => ⟨a, rfl, ?_⟩, by omega, ?_, by omega⟩
    · rw [List.getElem?_take] at hx
      split at hx
      · rename_i hj
        rw [List.getElem?_map] at hx
        cases hz : zs[j]? with
        | none => rw [hz] at hx; simp at hx
        | some z =>
          rw [hz] at hx
          simp only [Option.map_some, Option.some.injEq] at hx
          have hjl : j < zs.length := (List.getElem?_eq_some_iff.1 hz).1
          have hzz := hbd z (List.mem_of_getElem? hz)
          rw [hcell j hjl]
          have : zs.getD j 0 = z := by simp [List.getD, hz]
          rw [this, ← hx]
          congr 2; omega
      · simp at hx
    · intro x hx
      have hx' := List.mem_of_mem_take hx
      obtain ⟨z, hz, rfl⟩ := List.mem_map.1 hx'
      have := hbd z hz
      omega
theorem IsN.of_open {w : World} {neg : Bool} {o : Option Addr} {l : List Nat} {c K : Nat} (h1 : Lies o l w) (h2 : l.length ≤ c) (h3 : Lm 4294967296 l) (h4 : l.length ≤ K) : IsN (.agg #[.bool neg, .slice o l.length c]) (sv neg (gval 4294967296 l)) K w := ⟨neg, o, l, c, rfl, h1, h2, h3, rfl, h4⟩
end Go.Proofs.Ytccogdlmlegmbaa
