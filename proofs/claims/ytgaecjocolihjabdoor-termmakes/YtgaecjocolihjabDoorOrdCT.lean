/- The order of terms, kind by kind; small laws of memory. -/
import Derived.Test.YtgaecjocolihjabDoorOrdMath
import Derived.Test.YtgaecjocolihjabDoorTermCopyAll
namespace Go.Proofs.YtgaecjocolihjabDoor
open Go.ChangeShapes Go.WideShapes Go.ChangeAt Go.ChangeMaps Go.RowKit Go.Shelf
set_option linter.unusedSimpArgs false
set_option linter.unusedVariables false
section
variable {neg neg' : Bool} {d d' : List Nat} {nm nm' : ByteArray} {n n' : Int} {l l' : List Tm} {b b' : List Nat}
theorem cT_0 : cT (.mk 0 neg d nm n l b) (.mk 0 neg' d' nm' n' l' b') = cmpZ (sv neg (gval 4294967296 d)) (sv neg' (gval 4294967296 d')) := by rw [cT, cz_self, lx_zero, if_pos rfl]
theorem cT_1 : cT (.mk 1 neg d nm n l b) (.mk 1 neg' d' nm' n' l' b') = lessZ nm.data.toList nm'.data.toList := by rw [cT, cz_self, lx_zero, if_neg (by decide), if_pos rfl]
theorem cT_2 : cT (.mk 2 neg d nm n l b) (.mk 2 neg' d' nm' n' l' b') = cmpZ n n' := by rw [cT, cz_self, lx_zero, if_neg (by decide), if_neg (by decide), if_pos (by decide)]
theorem cT_3 : cT (.mk 3 neg d nm n l b) (.mk 3 neg' d' nm' n' l' b') = cmpZ n n' := by rw [cT, cz_self, lx_zero, if_neg (by decide), if_neg (by decide), if_pos (by decide)]
theorem cT_7 : cT (.mk 7 neg d nm n l b) (.mk 7 neg' d' nm' n' l' b') = lexZ b b' := by rw [cT, cz_self, lx_zero, if_neg (by decide), if_neg (by decide), if_neg (by decide), if_pos rfl]
theorem cT_4 : cT (.mk 4 neg d nm n l b) (.mk 4 neg' d' nm' n' l' b') = lx (cmpZ (l.length : Int) (l'.length : Int)) (cR l l') := by rw [cT, cz_self, lx_zero, if_neg (by decide), if_neg (by decide), if_neg (by decide), if_neg (by decide), if_pos (by decide)]
theorem cT_6 : cT (.mk 6 neg d nm n l b) (.mk 6 neg' d' nm' n' l' b') = lx (cmpZ (l.length : Int) (l'.length : Int)) (cR l l') := by rw [cT, cz_self, lx_zero, if_neg (by decide), if_neg (by decide), if_neg (by decide), if_neg (by decide), if_pos (by decide)]
theorem cT_5 : cT (.mk 5 neg d nm n l b) (.mk 5 neg' d' nm' n' l' b') = 0 := by rw [cT, cz_self, lx_zero, if_neg (by decide), if_neg (by decide), if_neg (by decide), if_neg (by decide), if_neg (by decide)]
theorem cT_kind {k k' : Int} (h : k ≠ k') : cT (.mk k neg d nm n l b) (.mk k' neg' d' nm' n' l' b') = cmpZ k k' := by rw [cT, lx_ne (by rw [Ne, cz_zero]; exact h)]
end
theorem heap_setc {w : World} {b j : Nat} {cs : Array Value} {T : TypeId} (h : w.heap[b]? = some (.cells cs T (0, 0))) (q : Value) :
    (w.setCell ⟨b, j, none⟩ q).heap[b]? = some (.cells (cs.setIfInBounds j q) T (0, 0)) := by
  simp [World.setCell, Array.getElem?_modify, h]
def ShutO (p : Prop) : Prop := p
theorem shutO {p : Prop} (h : p) : ShutO p := h
theorem ShutO.out {p : Prop} (h : ShutO p) : p := h
set_option maxHeartbeats 1000000 in
theorem rNil_w (w : World) : Calls Tryd.prog 35 #[] w fun e w' => e = .returned (tmV 5 false nilS noS 0 nilS nilS) ∧ Below w.heap.size w w' := by
  go_enter Tryd.func35, Tryd.ntmps35
  go_wp2
  exact bodyPost_ret (v := tmV 5 false nilS noS 0 nilS nilS) (by simp [results, Tryd.results35, go_sem]) rfl ⟨rfl, (Below.refl _ w).alloc (Nat.le_refl _) _⟩
end Go.Proofs.YtgaecjocolihjabDoor
