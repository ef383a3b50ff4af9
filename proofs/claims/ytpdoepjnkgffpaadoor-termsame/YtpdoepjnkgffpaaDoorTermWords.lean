/- Words of package term. -/
import Derived.Test.YtpdoepjnkgffpaaDoorTermRoom
import Derived.Deep.RegionWith
namespace Go.Proofs.YtpdoepjnkgffpaaDoor
open Go.ChangeShapes Go.WideShapes Go.ChangeAt Go.RowKit Go.Shelf
set_option linter.unusedSimpArgs false
set_option linter.unusedVariables false
set_option maxRecDepth 2000
theorem roomN_le {p : Tm} (h : p.ok1) : roomN p ≤ 1000001 := by
  cases p with | mk k neg d nm n l b =>
  obtain ⟨h1, h2, h3, h4, h5⟩ : d.length ≤ 1000000 ∧ nm.size ≤ 1000000 ∧ l.length ≤ 1000000 ∧ b.length ≤ 1000000 ∧ Lm 4294967296 d := h
  simp only [roomN]
  split
  · split
    · omega
    · have e : (sv neg (gval 4294967296 d)).natAbs = gval 4294967296 d := by unfold sv; cases neg <;> simp
      rw [e]
      have := gval_len h5
      omega
  · repeat (first | omega | split)
set_option maxHeartbeats 1000000 in
theorem words1_w (g : Nat) (z : Int) (x : Value) (p : Tm) (w : World) (hz0 : 0 ≤ z) (hz1 : z ≤ 1099511627776) (hok : p.ok1) (h : One g z w) (hx : TV (Low w) w p x) :
    Calls Tryd.prog 60 #[x, .pointer (some ⟨g, 0, none⟩)] w fun e w' => e = .returned (.bool true) ∧ One g (z + (roomN p : Nat)) w' ∧ Kept (fun i => i = g) w w' := by
  have hx0 := hx
  have hr := roomN_le hok
  cases hp : p with | mk tk tneg td tnm tn tl tb =>
  rw [hp] at hx
  unfold TV at hx
  obtain ⟨tod, tcd, tol, tcl, tob, tcb, rfl, _, _, _, _, _, htl, htR⟩ := hx
  rw [← hp]
  clear htR htl hp
  have hg := h.lt
  have hB : Below w.heap.size w (w.alloc (.cells #[.int .i64 tk, .bool tneg, .slice tod td.length tcd, .string tnm, .int .i64 tn, .slice tol tl.length tcl, .slice tob tb.length tcb] 31)) := (Below.refl _ w).alloc (Nat.le_refl _) _
  have kA := Bx.new w (.int .i64 tk) (.bool tneg) (.slice tod td.length tcd) (.string tnm) (.int .i64 tn) (.slice tol tl.length tcl) (.slice tob tb.length tcb) 31
  have h1 : One g z (w.alloc (.cells #[.int .i64 tk, .bool tneg, .slice tod td.length tcd, .string tnm, .int .i64 tn, .slice tol tl.length tcl, .slice tob tb.length tcb] 31)) := (hB.block g hg).trans h
  go_enter Tryd.func60, Tryd.ntmps60
  go_wp2_with fail
  generalize (w.alloc (.cells #[.int .i64 tk, .bool tneg, .slice tod td.length tcd, .string tnm, .int .i64 tn, .slice tol tl.length tcl, .slice tob tb.length tcb] 31)) = w1 at *
  have c1 := h1.cell
  have f1 := h1.free
  obtain ⟨x0, x1, x2, x3, x4, x5, x6, _⟩ := id kA
  have hw : IntKind.i64.wrap (z + ((roomN p : Nat) : Int)) = z + ((roomN p : Nat) : Int) := by rw [IntKind.wrap_i64]; omega
  go_region_with (
       (go_at_call_of 61 tod
        refine (room_w p _ _ hok (TV.mono (fun k hk _ => hk) _ _ (TV.zs (fun k hk => (hB.drew).block k hk) _ _ hx0))).mono ?_
        rintro e w2 ⟨rfl, b2⟩
        have h2 : One g z w2 := (b2.block g h1.lt).trans h1
        have hk2 : Kept (fun i => i = g) w w2 := (Kept.of_below (hB.drew)).trans (Kept.of_below b2)
        have c2 := h2.cell
        have f2 := h2.free))
  all_goals (have h3 := h2.set (z + ((roomN p : Nat) : Int)); have hk3 := hk2.trans (Kept.of_set (F := fun i => i = g) w2 (p := ⟨g, 0, none⟩) rfl (.int .i64 (z + ((roomN p : Nat) : Int)))))
  all_goals (go_wp2; go_ret; exact ⟨rfl, h3, hk3⟩)
/-- how many words -/
def wordsN (T : Tm) : Nat := ((parts T).map roomN).sum
theorem enWords : Enters Tryd.prog 60 := enters_of Tryd.func60 (by kernel_rfl) rfl
theorem sum_le : ∀ (l : List Tm), (∀ p ∈ l, p.ok1) → (l.map roomN).sum ≤ l.length * 1000001
  | [], _ => by simp
  | p :: l, h => by
    have h1 := roomN_le (h p (by simp))
    have h2 := sum_le l (fun q hq => h q (by simp [hq]))
    simp only [List.map_cons, List.sum_cons, List.length_cons]
    omega
set_option maxHeartbeats 1000000 in
theorem Words_w (T : Tm) (v : Value) (w : World) (hD : dep T ≤ 1000000) (hok : ∀ p ∈ parts T, p.ok1) (hlen : (parts T).length ≤ 1000000) (hT : TV (Low w) w T v) :
    Calls Tryd.prog 34 #[v] w fun e w' => e = .returned (.int .i64 ((wordsN T : Nat) : Int)) ∧ Below w.heap.size w w' := by
  have hmf : ∀ (fn : Fn) (first cap : Array Value) (w : World), (Instr.makeFunc fn first cap).run Tryd.prog w = .ok (.func fn first cap) w := fun _ _ _ _ => rfl
  have hT0 := hT
  cases hTT : T with | mk tk tneg td tnm tn tl tb =>
  rw [hTT] at hT
  unfold TV at hT
  obtain ⟨tod, tcd, tol, tcl, tob, tcb, rfl, _, _, _, _, _, htl, htR⟩ := hT
  rw [← hTT]
  clear hTT htR htl
  go_enter Tryd.func34, Tryd.ntmps34
  go_wp2_with fail
  have hz : (w.alloc (.cells #[.int .i64 tk, .bool tneg, .slice tod td.length tcd, .string tnm, .int .i64 tn, .slice tol tl.length tcl, .slice tob tb.length tcb] 31)).heap.size = w.heap.size + 1 := by simp
  have hB1 : Below w.heap.size w (w.alloc (.cells #[.int .i64 tk, .bool tneg, .slice tod td.length tcd, .string tnm, .int .i64 tn, .slice tol tl.length tcl, .slice tob tb.length tcb] 31)) := (Below.refl _ w).alloc (Nat.le_refl _) _
  generalize (w.alloc (.cells #[.int .i64 tk, .bool tneg, .slice tod td.length tcd, .string tnm, .int .i64 tn, .slice tol tl.length tcl, .slice tob tb.length tcb] 31)) = w1 at *
  have hO := One.new w1 0
  rw [hz] at hO
  have hB2 : Below w.heap.size w (w1.alloc (.cells #[.int .i64 0] 3)) := hB1.alloc (by omega) _
  have hz2 : (w1.alloc (.cells #[.int .i64 0] 3)).heap.size = w.heap.size + 2 := by simp [hz]
  generalize (w1.alloc (.cells #[.int .i64 0] 3)) = w2 at *
  have hz3 : Hid (w2.heap.size = w.heap.size + 2) := hid hz2
  refine (every_w 60 #[.pointer (some ⟨w.heap.size + 1, 0, none⟩)] enWords (fun i => i = w.heap.size + 1) (fun k w' => One (w.heap.size + 1) ((((parts T).take k).map roomN).sum : Nat) w') (fun k => true) T _ w2 1000000 hD (Nat.le_refl _) ?e1 ?e2 ?e3 ?e4 ?e5).mono ?_
  case e1 => exact TV.mono (fun k hk h => ⟨hk, by have : k < w.heap.size := h; omega⟩) _ _ (TV.zs (fun k hk => hB2.block k hk) _ _ hT0)
  case e2 => intro k hk; omega
  case e3 => simpa using hO
  case e4 => intro k w3 w4 h1 h2; exact (h2 _ rfl).trans h1
  case e5 =>
    intro k p x w3 hp hj hx hk h1
    have hs := sum_le ((parts T).take k) (fun q hq => hok q (List.mem_of_mem_take hq))
    have hl := List.length_take_le k (parts T)
    have hl2 : ((parts T).take k).length ≤ 1000000 := by rw [List.length_take]; omega
    have hs2 : (((parts T).take k).map roomN).sum ≤ 1000000 * 1000001 := Nat.le_trans hs (Nat.mul_le_mul_right _ hl2)
    refine (words1_w _ _ x p w3 (by omega) (by omega) (hok p (List.mem_of_getElem? hp)) h1 (TV.mono (fun k hk h => hk) _ _ hx)).mono ?_
    rintro e w4 ⟨h5, h6, h7⟩
    refine ⟨h5, ?_, h7⟩
    have e1 : (((parts T).take (k + 1)).map roomN).sum = (((parts T).take k).map roomN).sum + roomN p := by
      rw [List.take_add_one, hp]; simp
    simp only [e1]
    have e2 : ((((((parts T).take k).map roomN).sum + roomN p : Nat)) : Int) = ((((parts T).take k).map roomN).sum : Int) + ((roomN p : Nat) : Int) := by omega
    rw [e2]; exact h6
  rintro e w3 ⟨hk, hres⟩
  have hB3 : Below w.heap.size w w3 := hB2.trans (hk.below (by omega) (fun k h => by omega))
  rcases hres with ⟨rfl, hall, hP⟩ | ⟨k, hkl, hall, hno, rfl, hP⟩
  · rw [List.take_length] at hP
    have c1 := hP.cell
    clear hP
    go_wp2
    go_ret
    exact ⟨rfl, hB3⟩
  · simp at hno
end Go.Proofs.YtpdoepjnkgffpaaDoor
