/- Tree of package term. -/
import Derived.Test.YtpdoepjnkgffpaaDoorTermEv
namespace Go.Proofs.YtpdoepjnkgffpaaDoor
open Go.ChangeShapes Go.WideShapes Go.ChangeAt Go.RowKit Go.Shelf
set_option linter.unusedSimpArgs false
set_option linter.unusedVariables false
set_option maxRecDepth 2000
/-- a number in a block of its own -/
abbrev One (g : Nat) (z : Int) (w : World) : Prop := w.heap[g]? = some (.cells #[.int .i64 z] 3 (0, 0))
theorem One.cell {g : Nat} {z : Int} {w : World} (h : One g z w) : w.cell? ⟨g, 0, none⟩ = some (.int .i64 z) := by simp [World.cell?, h]
theorem One.free {g : Nat} {z : Int} {w : World} (h : One g z w) : w.frozen? ⟨g, 0, none⟩ = false := by simp [World.frozen?, h]
theorem One.lt {g : Nat} {z : Int} {w : World} (h : One g z w) : g < w.heap.size := (Array.getElem?_eq_some_iff.1 h).1
theorem One.set {g : Nat} {z : Int} {w : World} (h : One g z w) (y : Int) : One g y (w.setCell ⟨g, 0, none⟩ (.int .i64 y)) := one_setCell h
abbrev Low (w : World) : Nat → Prop := fun k => k < w.heap.size
set_option maxHeartbeats 1000000 in
theorem tree1_w (g k : Nat) (x : Value) (T : Tm) (w : World) (hk : k ≤ 65536) (h : One g (k : Int) w) (hx : TV (Low w) w T x) :
    Calls Tryd.prog 62 #[x, .pointer (some ⟨g, 0, none⟩)] w fun e w' => e = .returned (.bool (decide (k + 1 ≤ 65536))) ∧ One g ((k + 1 : Nat) : Int) w' ∧ Kept (fun i => i = g) w w' := by
  cases T with | mk tk tneg td tnm tn tl tb =>
  unfold TV at hx
  obtain ⟨tod, tcd, tol, tcl, tob, tcb, rfl, _, _, _, _, _, htl, htR⟩ := hx
  have hg := h.lt
  have hB : Below w.heap.size w (w.alloc (.cells #[.int .i64 tk, .bool tneg, .slice tod td.length tcd, .string tnm, .int .i64 tn, .slice tol tl.length tcl, .slice tob tb.length tcb] 31)) := (Below.refl _ w).alloc (Nat.le_refl _) _
  have h1 : One g (k : Int) (w.alloc (.cells #[.int .i64 tk, .bool tneg, .slice tod td.length tcd, .string tnm, .int .i64 tn, .slice tol tl.length tcl, .slice tob tb.length tcb] 31)) := (hB.block g hg).trans h
  have c1 := h1.cell
  have f1 := h1.free
  have h0 := h.set ((k : Int) + 1)
  have h2 : One g ((k : Int) + 1) ((w.setCell ⟨g, 0, none⟩ (.int .i64 ((k : Int) + 1))).alloc (.cells #[.int .i64 tk, .bool tneg, .slice tod td.length tcd, .string tnm, .int .i64 tn, .slice tol tl.length tcl, .slice tob tb.length tcb] 31)) := (((Below.refl _ _).alloc (Nat.le_refl _) _).block g h0.lt).trans h0
  have c2 := h2.cell
  go_enter Tryd.func62, Tryd.ntmps62
  go_wp2
  go_ret
  refine ⟨?_, by simpa using h2, (Kept.of_set (F := fun i => i = g) w (p := ⟨g, 0, none⟩) rfl _).trans (Kept.of_alloc _ _)⟩
  exact congrArg (fun b => Ending.returned (.bool b)) (decide_eq_decide.2 (by omega))
/-- how many parts, up to the bound -/
def treeN (T : Tm) : Nat := min (parts T).length 65537
theorem One.new (w : World) (z : Int) : One w.heap.size z (w.alloc (.cells #[.int .i64 z] 3)) := heap_alloc_new w _
theorem enTree : Enters Tryd.prog 62 := enters_of Tryd.func62 (by kernel_rfl) rfl
set_option maxHeartbeats 1000000 in
theorem Tree_w (T : Tm) (v : Value) (w : World) (hD : dep T ≤ 1000000) (hT : TV (Low w) w T v) :
    Calls Tryd.prog 35 #[v] w fun e w' => e = .returned (.int .i64 ((treeN T : Nat) : Int)) ∧ Below w.heap.size w w' := by
  have hmf : ∀ (fn : Fn) (first cap : Array Value) (w : World), (Instr.makeFunc fn first cap).run Tryd.prog w = .ok (.func fn first cap) w := fun _ _ _ _ => rfl
  have hT0 := hT
  cases hTT : T with | mk tk tneg td tnm tn tl tb =>
  rw [hTT] at hT
  unfold TV at hT
  obtain ⟨tod, tcd, tol, tcl, tob, tcb, rfl, _, _, _, _, _, htl, htR⟩ := hT
  rw [← hTT]
  clear hTT htR htl
  go_enter Tryd.func35, Tryd.ntmps35
  go_wp2_with fail
  have hz : (w.alloc (.cells #[.int .i64 tk, .bool tneg, .slice tod td.length tcd, .string tnm, .int .i64 tn, .slice tol tl.length tcl, .slice tob tb.length tcb] 31)).heap.size = w.heap.size + 1 := by simp
  have hB1 : Below w.heap.size w (w.alloc (.cells #[.int .i64 tk, .bool tneg, .slice tod td.length tcd, .string tnm, .int .i64 tn, .slice tol tl.length tcl, .slice tob tb.length tcb] 31)) := (Below.refl _ w).alloc (Nat.le_refl _) _
  generalize (w.alloc (.cells #[.int .i64 tk, .bool tneg, .slice tod td.length tcd, .string tnm, .int .i64 tn, .slice tol tl.length tcl, .slice tob tb.length tcb] 31)) = w1 at *
  have hO := One.new w1 0
  rw [hz] at hO
  have hB2 : Below w.heap.size w (w1.alloc (.cells #[.int .i64 0] 3)) := hB1.alloc (by omega) _
  have hz2 : (w1.alloc (.cells #[.int .i64 0] 3)).heap.size = w.heap.size + 2 := by simp [hz]
  generalize (w1.alloc (.cells #[.int .i64 0] 3)) = w2 at *
  have hz3 : Hid (w2.heap.size = w.heap.size + 2) := hid hz2
  refine (every_w 62 #[.pointer (some ⟨w.heap.size + 1, 0, none⟩)] enTree (fun i => i = w.heap.size + 1) (fun k w' => One (w.heap.size + 1) (k : Int) w') (fun k => decide (k + 1 ≤ 65536)) T _ w2 1000000 hD (Nat.le_refl _) ?e1 ?e2 ?e3 ?e4 ?e5).mono ?_
  case e1 => exact TV.mono (fun k hk h => ⟨hk, by have : k < w.heap.size := h; omega⟩) _ _ (TV.zs (fun k hk => hB2.block k hk) _ _ hT0)
  case e2 => intro k hk; omega
  case e3 => exact hO
  case e4 => intro k w3 w4 h1 h2; exact (h2 _ rfl).trans h1
  case e5 =>
    intro k p x w3 hp hj hx hk h1
    have hk' : k ≤ 65536 := by
      rcases Nat.lt_or_ge 65536 k with h | h
      · have := hj 65536 h
        simp at this
      · exact h
    exact tree1_w _ k x p w3 hk' h1 (TV.mono (fun k hk h => hk) _ _ hx)
  rintro e w3 ⟨hk, hres⟩
  have hB3 : Below w.heap.size w w3 := hB2.trans (hk.below (by omega) (fun k h => by omega))
  rcases hres with ⟨rfl, hall, hP⟩ | ⟨k, hkl, hall, hno, rfl, hP⟩
  · have hn : (parts T).length ≤ 65536 := by
      rcases Nat.lt_or_ge 65536 (parts T).length with h | h
      · have := hall 65536 h
        simp at this
      · exact h
    have ht : ((parts T).length : Int) = ((treeN T : Nat) : Int) := by unfold treeN; omega
    rw [ht] at hP
    have c1 := hP.cell
    go_wp2
    go_ret
    exact ⟨rfl, hB3⟩
  · have hk1 : k = 65536 := by
      have h1 : ¬ (k + 1 ≤ 65536) := by simpa using hno
      rcases Nat.lt_or_ge 65536 k with h | h
      · have := hall 65536 h
        simp at this
      · omega
    have ht : ((k + 1 : Nat) : Int) = ((treeN T : Nat) : Int) := by unfold treeN; omega
    rw [ht] at hP
    have c1 := hP.cell
    go_wp2
    go_ret
    exact ⟨rfl, hB3⟩
end Go.Proofs.YtpdoepjnkgffpaaDoor
