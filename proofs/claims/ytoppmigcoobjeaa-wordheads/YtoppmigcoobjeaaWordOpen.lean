/- How a header that came in is opened: four fields. -/
import Derived.Test.YtoppmigcoobjeaaWordHeadWalks
import Derived.Lib.SmallJoins
namespace Go.Proofs.Ytoppmigcoobjeaa
open Go.ChangeShapes Go.WideShapes Go.ChangeAt Go.RowKit Go.Joins
set_option linter.unusedSimpArgs false
set_option linter.unusedVariables false
theorem cells_hdr : Try.prog.cellsOf 36 = 4 := by kernel_rfl
theorem open_hdr {H : Type} {enc : TypeId × Value → H} {w : World} {base : Nat} {v : Value} {d : DataW H} {p : List MemPlace}
    (o : Value.okWide Try.prog w .any base 36 v) (h : DataW.Trod enc Try.prog w 0 (fun _ => true) true 36 v d p) :
    ∃ (k s t : Int) (b : Bool), v = .agg #[.int .i64 k, .int .i64 s, .int .i64 t, .bool b] := by
  obtain ⟨c0, c1, c2, c3, y0, y1, y2, y3, n, rfl, rfl, rfl, e0, e1, e2, e3⟩ := open_agg4 Try.underlying36 (by kernel_rfl) cells_hdr o h
  obtain ⟨k, f0, _⟩ := DataW.trod_int Try.underlying3 e0
  obtain ⟨s, f1, _⟩ := DataW.trod_int Try.underlying3 e1
  obtain ⟨t, f2, _⟩ := DataW.trod_int Try.underlying3 e2
  obtain ⟨b, f3, _⟩ := DataW.trod_bool Try.underlying4 e3
  simp at f0 f1 f2 f3
  subst f0 f1 f2 f3
  exact ⟨k, s, t, b, rfl⟩
end Go.Proofs.Ytoppmigcoobjeaa
