/- Valid, Count of package runes and of its reference: for every text what the signs say. -/
import Derived.Test.YtpdoepjnkgffpaaDoorTermSmall
import Derived.WalkKit
import Derived.Laws.Closers25
import Derived.Lib.OthersKept
namespace Go.Proofs.YtpdoepjnkgffpaaDoor
open Go.ChangeShapes Go.WideShapes Go.ChangeAt Go.RowKit Go.Shelf
set_option linter.unusedSimpArgs false
set_option linter.unusedVariables false
set_option maxRecDepth 2000

theorem isEmpty_bytes (s : ByteArray) : (!s.toList.isEmpty) = decide (s.data.toList ≠ []) := by
  rw [← decide_eq_emptyBytes, ← decide_not, decide_eq_decide]
  constructor
  · intro h e; apply h; cases s with | mk d => (simp at e; subst e; rfl)
  · rintro h rfl; exact h rfl
theorem valid_w (s : ByteArray) (w : World) (hs : s.size ≤ 9223372036854775807) (hT : Lib.Utf8Tabs 0 1 w) :
    Calls Tryd.prog 89 #[.string s] w fun e w' => e = .returned (.bool (Lib.validD s.data.toList)) ∧ Below w.heap.size w w' := by
  go_enter Tryd.func89, Tryd.ntmps89
  go_wp2_with (go_at_call 85; refine (validString_w s _ hs hT).mono ?_; rintro e w1 ⟨rfl, hb⟩)
  go_ret
  exact ⟨rfl, hb⟩
theorem rvalid_w (s : ByteArray) (w : World) (hs : s.size ≤ 9223372036854775807) (hT : Lib.Utf8Tabs 0 1 w) :
    Calls Tryd.prog 65 #[.string s] w fun e w' => e = .returned (.bool (Lib.validD s.data.toList)) ∧ Below w.heap.size w w' := by
  go_enter Tryd.func65, Tryd.ntmps65
  go_wp2_with (go_at_call 85; refine (validString_w s _ hs hT).mono ?_; rintro e w1 ⟨rfl, hb⟩)
  go_ret
  exact ⟨rfl, hb⟩

theorem iter_fresh {w w1 : World} (hb : Below w.heap.size w w1) (s : ByteArray) : (w1.iter s 0).heap[w1.heap.size]? = some (.stringIter s 0) ∧ Below w.heap.size w (w1.iter s 0) :=
  ⟨World.iter_heap w1 s 0, hb.alloc hb.size _⟩

set_option maxHeartbeats 1000000 in
theorem count_w (s : ByteArray) (w : World) (hs : s.size ≤ 9223372036854775807) (hT : Lib.Utf8Tabs 0 1 w) :
    Calls Tryd.prog 97 #[.string s] w fun e w' => e = .returned (.int .i64 (countZ s.data.toList)) ∧ Below w.heap.size w w' := by
  obtain ⟨R, hR⟩ : ∃ R, countZ s.data.toList = R := ⟨_, rfl⟩
  rw [hR]
  unfold countZ at hR
  by_cases hv : Lib.validD s.data.toList = true
  · rw [if_pos hv] at hR
    go_enter Tryd.func97, Tryd.ntmps97
    go_wp2_with (go_at_call 89; refine (valid_w s _ hs hT).mono ?_; rintro e w1 ⟨rfl, hb⟩)
    go_loopw [3] (fun n wr => ∃ (pos k : Nat), n = .int .i64 (k : Int) ∧ k ≤ pos ∧ wr.heap[w1.heap.size]? = some (.stringIter s pos) ∧ Below w.heap.size w wr ∧ Hid (k + (sg (s.data.toList.drop pos)).length = (sg s.data.toList).length)) (fun _ wr => s.size - wr.iterPos w1.heap.size)
    case atStart => exact ⟨0, 0, rfl, Nat.le_refl _, (iter_fresh hb s).1, (iter_fresh hb s).2, hid (by simp)⟩
    case round =>
      obtain ⟨pos, k, rfl, hkp, hit, hbw, hH⟩ := hrel
      by_cases hp : pos < s.size
      · have hnx : ∀ ty, (Instr.next (.pointer (some ⟨w1.heap.size, 0, none⟩)) true ty).run Tryd.prog wr = _ := fun ty => Lib.run_next_any_at wr w1.heap.size s pos ty hit hp
        have hwd := Lib.width_pos s pos
        have hit2 := Lib.iterAt_heap wr w1.heap.size s pos (pos + (Utf8.decode s pos).2) hit
        have hbw2 := Lib.below_iterAt hbw (k := w1.heap.size) hb.size s (pos + (Utf8.decode s pos).2)
        have hst : Hid (sg (s.data.toList.drop pos) = _) := hid (sg_at s pos hp)
        go_wp2
        go_roundw
        case rel =>
          refine ⟨pos + (Utf8.decode s pos).2, k + 1, by go_num, by omega, hit2, hbw2, hid ?_⟩
          have h1 := hH.out
          rw [hst.out] at h1
          simp only [List.length_cons] at h1
          omega
        case measure =>
          simp only [World.iterPos, hit2, hit]
          omega
      · have hnx : ∀ ty, (Instr.next (.pointer (some ⟨w1.heap.size, 0, none⟩)) true ty).run Tryd.prog wr = _ := fun ty => Lib.run_next_end_at wr w1.heap.size s pos ty hit hp
        go_wp2
        go_ret
        have h1 := hH.out
        rw [sg_end s pos hp] at h1
        refine ⟨?_, hbw⟩
        rw [← hR, ← h1]
        simp
  · rw [if_neg hv] at hR
    subst hR
    have hv' : Lib.validD s.data.toList = false := by simpa using hv
    go_enter Tryd.func97, Tryd.ntmps97
    go_wp2_with (go_at_call 89; refine (valid_w s _ hs hT).mono ?_; rintro e w1 ⟨rfl, hb⟩)
    go_ret
    exact ⟨rfl, hb⟩
set_option maxHeartbeats 1000000 in
theorem rcount_w (s : ByteArray) (w : World) (hs : s.size ≤ 9223372036854775807) (hT : Lib.Utf8Tabs 0 1 w) :
    Calls Tryd.prog 66 #[.string s] w fun e w' => e = .returned (.int .i64 (countZ s.data.toList)) ∧ Below w.heap.size w w' := by
  obtain ⟨R, hR⟩ : ∃ R, countZ s.data.toList = R := ⟨_, rfl⟩
  rw [hR]
  unfold countZ at hR
  by_cases hv : Lib.validD s.data.toList = true
  · rw [if_pos hv] at hR
    go_enter Tryd.func66, Tryd.ntmps66
    go_wp2_with (go_at_call 65; refine (rvalid_w s _ hs hT).mono ?_; rintro e w1 ⟨rfl, hb⟩)
    go_loopw [3] (fun n wr => ∃ (pos k : Nat), n = .int .i64 (k : Int) ∧ k ≤ pos ∧ wr.heap[w1.heap.size]? = some (.stringIter s pos) ∧ Below w.heap.size w wr ∧ Hid (k + (sg (s.data.toList.drop pos)).length = (sg s.data.toList).length)) (fun _ wr => s.size - wr.iterPos w1.heap.size)
    case atStart => exact ⟨0, 0, rfl, Nat.le_refl _, (iter_fresh hb s).1, (iter_fresh hb s).2, hid (by simp)⟩
    case round =>
      obtain ⟨pos, k, rfl, hkp, hit, hbw, hH⟩ := hrel
      by_cases hp : pos < s.size
      · have hnx : ∀ ty, (Instr.next (.pointer (some ⟨w1.heap.size, 0, none⟩)) true ty).run Tryd.prog wr = _ := fun ty => Lib.run_next_any_at wr w1.heap.size s pos ty hit hp
        have hwd := Lib.width_pos s pos
        have hit2 := Lib.iterAt_heap wr w1.heap.size s pos (pos + (Utf8.decode s pos).2) hit
        have hbw2 := Lib.below_iterAt hbw (k := w1.heap.size) hb.size s (pos + (Utf8.decode s pos).2)
        have hst : Hid (sg (s.data.toList.drop pos) = _) := hid (sg_at s pos hp)
        go_wp2
        go_roundw
        case rel =>
          refine ⟨pos + (Utf8.decode s pos).2, k + 1, by go_num, by omega, hit2, hbw2, hid ?_⟩
          have h1 := hH.out
          rw [hst.out] at h1
          simp only [List.length_cons] at h1
          omega
        case measure =>
          simp only [World.iterPos, hit2, hit]
          omega
      · have hnx : ∀ ty, (Instr.next (.pointer (some ⟨w1.heap.size, 0, none⟩)) true ty).run Tryd.prog wr = _ := fun ty => Lib.run_next_end_at wr w1.heap.size s pos ty hit hp
        go_wp2
        go_ret
        have h1 := hH.out
        rw [sg_end s pos hp] at h1
        refine ⟨?_, hbw⟩
        rw [← hR, ← h1]
        simp
  · rw [if_neg hv] at hR
    subst hR
    have hv' : Lib.validD s.data.toList = false := by simpa using hv
    go_enter Tryd.func66, Tryd.ntmps66
    go_wp2_with (go_at_call 65; refine (rvalid_w s _ hs hT).mono ?_; rintro e w1 ⟨rfl, hb⟩)
    go_ret
    exact ⟨rfl, hb⟩

end Go.Proofs.YtpdoepjnkgffpaaDoor
