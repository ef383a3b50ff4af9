/- SameNum, OfInt of the reference; same; Small of package big. -/
import Derived.Test.YtgaecjocolihjabDoorTermBigA
namespace Go.Proofs.YtgaecjocolihjabDoor
open Go.ChangeShapes Go.WideShapes Go.ChangeAt Go.RowKit
set_option linter.unusedSimpArgs false
set_option linter.unusedVariables false
/-- two Norms are held against one another limb by limb: here of one number -/
theorem sameNum_w (va vb : Value) (Z : Int) (K : Nat) (w : World) (hK : K ≤ 1000000) (ha : IsC va Z K w) (hb : IsC vb Z K w) :
    Calls Tryd.prog 16 #[va, vb] w fun e w' => e = .returned (.bool true) ∧ Below w.heap.size w w' := by
  obtain ⟨oa, ca, rfl, hLa, hca, hka⟩ := ha
  obtain ⟨ob, cb, rfl, hLb, hcb, hkb⟩ := hb
  obtain ⟨bz, hbz⟩ : ∃ bz, decide (Z < 0) = bz := ⟨_, rfl⟩
  rw [hbz]
  generalize glim 4294967296 Z.natAbs = l at *
  clear hbz
  obtain ⟨kA, kB, hB0, hz0⟩ := boxes2 w (.bool bz) (.slice oa l.length ca) (.bool bz) (.slice ob l.length cb) 25 25
  have hbb : (bz != bz) = false := by cases bz <;> rfl
  have hll : ((l.length : Int) != (l.length : Int)) = false := by simp
  go_enter Tryd.func16, Tryd.ntmps16
  go_wp2
  generalize ((w.alloc (.cells #[.bool bz, .slice oa l.length ca] 25)).alloc (.cells #[.bool bz, .slice ob l.length cb] 25)) = W0 at *
  go_loopw [5] (fun iv wr => ∃ k : Nat, iv = .int .i64 (k : Int) ∧ k ≤ l.length ∧ Below W0.heap.size W0 wr) (fun iv _ => l.length - (intOf iv).toNat)
  case atStart => exact ⟨0, rfl, by omega, Below.refl _ _⟩
  case round =>
    obtain ⟨k, rfl, hk, hbw⟩ := hrel
    have hBw := below_and hB0 (Nat.le_refl _) hbw
    obtain ⟨f1, f2, f3, f4⟩ := id (kA.below hbw (by omega))
    obtain ⟨f5, f6, f7, f8⟩ := id (kB.below hbw (by omega))
    by_cases h1 : k < l.length
    · have h1z : (k : Int) < (l.length : Int) := by omega
      obtain ⟨x, hx⟩ : ∃ x, l[k]? = some x := ⟨l[k], by simp [h1]⟩
      obtain ⟨a, rfl, cx⟩ := (hLa.below hBw) k x hx
      obtain ⟨b, rfl, cy⟩ := (hLb.below hBw) k x hx
      go_wp2
      go_quiet (fail)
      go_wp2
      go_roundw
      case rel => exact ⟨k + 1, by go_num, by omega, below_drewNv hbw _⟩
      case measure => simp [intOf]; omega
    · have h1z : ¬ (k : Int) < (l.length : Int) := by omega
      go_wp2
      go_ret
      exact ⟨rfl, hBw⟩
end Go.Proofs.YtgaecjocolihjabDoor
