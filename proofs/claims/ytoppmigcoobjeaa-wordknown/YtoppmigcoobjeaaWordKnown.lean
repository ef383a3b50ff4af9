/- WordKnown answers true: chapter 1's example, and what does not fit; it takes nothing, and there is no condition. -/
import Derived.Test.YtoppmigcoobjeaaWordHeadWalks
import Derived.ChangeOld
import Derived.Below
import Derived.Handy
namespace Go.Proofs.Ytoppmigcoobjeaa.wordKnown
open Go.ChangeShapes Go.WideShapes Go.ChangeAt Go.RowKit
set_option linter.unusedSimpArgs false
set_option linter.unusedVariables false

theorem walk {H : Type} (enc : TypeId × Value → H) (base : Nat) (w : World) :
    Calls Try.prog 3 #[] w fun e w' => e = .returned (.bool true) ∧ Below w.heap.size w w' := by
  have e1 : makeV 1 3 4 false = 536871318 := by decide +kernel
  have e2 : rk 536871318 = 1 := by decide +kernel
  have e3 : rs 536871318 = 3 := by decide +kernel
  have e4 : rt 536871318 = 4 := by decide +kernel
  have e5 : rb 536871318 = false := by decide +kernel
  have e6 : isV 536871318 = true := by decide +kernel
  have e7 : (Lit.int .u64 536871318).wf = true := by decide
  have e8 : ofV 0 1 = 16 := by decide +kernel
  have e9 : isV 16 = false := by decide +kernel
  have e10 : (Lit.int .u64 16).wf = true := by decide
  have e11 : ofV 5 576460752303423488 = 4 := by decide +kernel
  have e12 : ofV 4 0 = 4 := by decide +kernel
  have e13 : fitsV (-576460752303423488) = true := by decide +kernel
  have e14 : fitsV 576460752303423488 = false := by decide +kernel
  have e15 : fieldsV 1 3 = 3 := by decide +kernel
  go_enter Try.func3, Try.ntmps3
  go_wp2_with (first
        | (go_at_call 7; refine (awake_w _).mono ?_; rintro e w1 ⟨rfl, rfl⟩)
        | (go_at_call 10; refine (of_w _ _ _).mono ?_; rintro e w1 ⟨rfl, rfl⟩)
        | (go_at_call 9; refine (make_w _ _ _ _ _).mono ?_; rintro e w1 ⟨rfl, rfl⟩)
        | (go_at_call 8; refine (read_w _ (by assumption) _).mono ?_; rintro e w1 ⟨rfl, rfl⟩)
        | (go_at_call 12; refine (fields_w _ _ _ _ _).mono ?_; rintro e w1 ⟨rfl, rfl⟩)
        | (go_at_call 11; refine (fits_w _ _).mono ?_; rintro e w1 ⟨rfl, rfl⟩))
  all_goals go_ret
  all_goals (refine ⟨?_, ?_⟩; simp; go_grown)
theorem own : ownKnob Try.prog.godebug = none := by kernel_rfl
theorem laidOut : laidOutB Try.prog = true := by kernel_rfl

theorem contract (H : Type) (enc : TypeId × Value → H) (W : World) (base : Nat) (args : Array Value) (ds gs : List (DataW H)) (before : List MemPlace)
    (hval : ∀ (j : Nat) t v, Try.f3.params[j]? = some t → args[j]? = some v → Value.okWide Try.prog W .any base t v)
    (hW : DataW.Whole enc Try.prog Try.f3.params.toList Rows.wordKnownSpec.vars false W args.toList ds gs before) :
    Calls Try.prog 3 args W fun e W' => ∃ v, e = .returned v ∧ Rows.wordKnownSpec.post enc Try.prog Try.f3 false true false false W args v W' := by
  have hW' := hW
  obtain ⟨p, q, hA0, hV, rfl, hfz, hnd⟩ := hW
  have hA : DataW.TrodAll enc Try.prog W 0 (fun _ => true) true Try.f3.params.toList args.toList ds p := hA0
  rw [Try.params3] at hA hval
  obtain ⟨rfl, rfl, rfl⟩ := trodAll_none hA
  obtain ⟨rfl, rfl⟩ := trodVars_none hV
  clear hA0
  refine (walk enc base W).mono fun e W' ⟨he, bel⟩ => ?_
  subst he
  exact ⟨_, rfl, _, _, _, [], _, [], hW', trodAll_mk1 (shut_bool Try.underlying4 _), trodAll_mk0, rfl, bel.frame _, fun h => by cases h⟩

set_option maxRecDepth 100000 in
theorem lifted (os : Os) (started : os.Started) (H : Type) (enc : TypeId × Value → H) :
    ReturnsInHanded {} Try.checked os 3 .any (Rows.wordKnownSpec.pre6 enc Try.prog Try.f3 Rows.wordKnownRow.domain false) (Rows.wordKnownSpec.post enc Try.prog Try.f3 false true false false) := by
  refine returnsInHanded_of_change (C := Try.checked) own started (by kernel_rfl) Try.func3
    (ChangeSpec.witness6 (enc := enc) (C := Try.checked) false ⟨#[], #[], []⟩ 8 (by kernel_rfl) (by kernel_rfl) (by kernel_rfl) (by kernel_rfl)) ?_
  intro W base args ds gs before hval hW _ _
  exact contract H enc W base args ds gs before hval hW

theorem over : Rows.wordKnownRow.holds Try.pinned (OpenSpec.ofChange Rows.wordKnownSpec) :=
  OpenClaim.holds_of_wide 3 Try.f3 rfl rfl rfl rfl rfl rfl rfl ⟨rfl, rfl, rfl, rfl, rfl⟩ rfl rfl rfl rfl rfl (by kernel_rfl) Try.func3 (by kernel_rfl)
    (of_decide_eq_true (by kernel_rfl)) (by unfold Func.isWrapper; first | (rw [if_pos (by decide +kernel)]; kernel_rfl) | (rw [if_neg (by decide +kernel)]; exact ⟨rfl, rfl⟩))
    (fun os started H enc _ => lifted os started H enc)
end Go.Proofs.Ytoppmigcoobjeaa.wordKnown
namespace Go.Proofs.Ytoppmigcoobjeaa
/-- THE GIVEN STATEMENT. -/
theorem wordKnown_holds : Rows.WordKnownSaid := wordKnown.over
#print axioms wordKnown_holds
end Go.Proofs.Ytoppmigcoobjeaa

