/- Tuple, Bin, Cons, Pid, Ref of package term. -/
import Derived.Test.YtgaecjocolihjabDoorTermAwake
namespace Go.Proofs.YtgaecjocolihjabDoor
open Go.ChangeShapes Go.WideShapes Go.ChangeAt Go.RowKit Go.Shelf
set_option linter.unusedSimpArgs false
set_option linter.unusedVariables false
def tupT (l : List Tm) : Tm := .mk 4 false [] noS 0 l []
def binT (b : List Nat) : Tm := .mk 7 false [] noS 0 [] b
def numT (k n : Int) : Tm := .mk k false [] noS n [] []
theorem tv_tup {w : World} {ls : List Tm} {o : Option Addr} {c : Nat} (h : TR (Low w) w ls o) (hc : ls.length ≤ c) : TV (Low w) w (tupT ls) (tmV 4 false nilS noS 0 (.slice o ls.length c) nilS) := by
  unfold tupT TV
  exact ⟨none, 0, o, c, none, 0, rfl, Ls.nil _ _ _, by simp, Lm.nil _, LsB.nil _ _ _, by simp, hc, h⟩
theorem tv_bin {w : World} {b : List Nat} {o : Option Addr} {c : Nat} (h : LsB (Low w) o b w) (hc : b.length ≤ c) : TV (Low w) w (binT b) (tmV 7 false nilS noS 0 nilS (.slice o b.length c)) := by
  unfold binT TV
  exact ⟨none, 0, none, 0, o, c, rfl, Ls.nil _ _ _, by simp, Lm.nil _, h, hc, by simp, by unfold TR; trivial⟩
theorem parts_tup (l : List Tm) : parts (tupT l) = tupT l :: partsL l := by simp [tupT, parts]
theorem parts_bin (b : List Nat) : parts (binT b) = [binT b] := by simp [binT, parts]
theorem cpT_tup (l : List Tm) : cpT (tupT l) = tupT (cpL l) := by simp [tupT, cpT]
theorem cpT_bin (b : List Nat) : cpT (binT b) = binT b := by simp [binT, cpT, prT]
theorem cpT_cons (a b : Tm) : cpT (consT a b) = consT (cpT a) (cpT b) := by simp [consT, cpT, cpL]
set_option maxHeartbeats 1000000 in
theorem Tuple_w (ls : List Tm) (o : Option Addr) (c : Nat) (w : World) (hc : ls.length ≤ c) (hlen : (partsL ls).length ≤ 4999999) (hl : ls.length ≤ 1000000) (hok : ∀ p ∈ partsL ls, p.ok1) (hT : TR (Low w) w ls o) :
    Calls Tryd.prog 13 #[.slice o ls.length c] w fun e w' => ∃ v', e = .returned v' ∧ TV (Zw w.heap.size w') w' (tupT (cpL ls)) v' ∧ Below w.heap.size w w' := by
  obtain ⟨kX, hBX, hz0⟩ := bx1 w (.int .i64 0) (.bool false) nilS (.string noS) (.int .i64 0) nilS nilS 30
  go_enter Tryd.func13, Tryd.ntmps13
  go_wp2_with fail
  generalize (w.alloc (.cells #[.int .i64 0, .bool false, .slice none 0 0, .string { data := #[] }, .int .i64 0, .slice none 0 0, .slice none 0 0] 30)) = W0 at *
  refine (Copy_w (tupT ls) _ _ (by rw [parts_tup]; simp; omega) (by rw [parts_tup]; intro p hp; rcases List.mem_cons.1 hp with rfl | hp; exact ⟨by simp, by decide, hl, by simp, Lm.nil _⟩; exact hok p hp) (tv_tup (tr_below hT hBX) hc)).mono ?_
  rintro e w2 ⟨v2, rfl, hV, b2⟩
  rw [cpT_tup] at hV
  have hBX := below_and hBX (by omega) b2
  have kX := kX.below b2
  clear b2
  obtain ⟨k9, neg9, od9, ld9, cd9, nm9, n9, ol9, ll9, cl9, ob9, lb9, cb9, rfl⟩ := hV.form
  have hf9 := kX.fr
  obtain ⟨x0, x1, x2, x3, x4, x5, x6⟩ := kX.res
  have hput := kX.put (b0 := .int .i64 k9) (b1 := .bool neg9) (b2 := .slice od9 ld9 cd9) (b3 := .string nm9) (b4 := .int .i64 n9) (b5 := .slice ol9 ll9 cl9) (b6 := .slice ob9 lb9 cb9)
  have hon := only_put w2 w.heap.size (.int .i64 k9) (.bool neg9) (.slice od9 ld9 cd9) (.string nm9) (.int .i64 n9) (.slice ol9 ll9 cl9) (.slice ob9 lb9 cb9)
  obtain ⟨r0, r1, r2, r3, r4, r5, r6⟩ := hput.res
  have hfin := hid (zw_move (S' := w.heap.size) hV (fun k hk _ => hon.2.2 k (by omega)) (by omega))
  have hBf := hBX.trans (hon.below (B := w.heap.size) (by omega))
  clear hV hon kX hput hBX
  go_wp2
  exact bodyPost_ret (v := tmV k9 neg9 (.slice od9 ld9 cd9) nm9 n9 (.slice ol9 ll9 cl9) (.slice ob9 lb9 cb9)) (by simp [results, Tryd.results13, go_sem, r0, r1, r2, r3, r4, r5, r6]) rfl ⟨_, rfl, hfin.out, hBf⟩
set_option maxHeartbeats 1000000 in
theorem Bin_w (b : List Nat) (o : Option Addr) (c : Nat) (w : World) (hc : b.length ≤ c) (hl : b.length ≤ 1000000) (hT : LsB (Low w) o b w) :
    Calls Tryd.prog 18 #[.slice o b.length c] w fun e w' => ∃ v', e = .returned v' ∧ TV (Zw w.heap.size w') w' (binT b) v' ∧ Below w.heap.size w w' := by
  obtain ⟨kX, hBX, hz0⟩ := bx1 w (.int .i64 0) (.bool false) nilS (.string noS) (.int .i64 0) nilS nilS 30
  go_enter Tryd.func18, Tryd.ntmps18
  go_wp2_with fail
  generalize (w.alloc (.cells #[.int .i64 0, .bool false, .slice none 0 0, .string { data := #[] }, .int .i64 0, .slice none 0 0, .slice none 0 0] 30)) = W0 at *
  refine (Copy_w (binT b) _ _ (by rw [parts_bin]; simp) (by rw [parts_bin]; intro p hp; simp at hp; subst hp; exact ⟨by simp, by decide, by simp, hl, Lm.nil _⟩) (tv_bin ((hT.zs (fun k hk => hBX.block k hk)).mono (fun k hk _ => hk)) hc)).mono ?_
  rintro e w2 ⟨v2, rfl, hV, b2⟩
  rw [cpT_bin] at hV
  have hBX := below_and hBX (by omega) b2
  have kX := kX.below b2
  clear b2
  obtain ⟨k9, neg9, od9, ld9, cd9, nm9, n9, ol9, ll9, cl9, ob9, lb9, cb9, rfl⟩ := hV.form
  have hf9 := kX.fr
  obtain ⟨x0, x1, x2, x3, x4, x5, x6⟩ := kX.res
  have hput := kX.put (b0 := .int .i64 k9) (b1 := .bool neg9) (b2 := .slice od9 ld9 cd9) (b3 := .string nm9) (b4 := .int .i64 n9) (b5 := .slice ol9 ll9 cl9) (b6 := .slice ob9 lb9 cb9)
  have hon := only_put w2 w.heap.size (.int .i64 k9) (.bool neg9) (.slice od9 ld9 cd9) (.string nm9) (.int .i64 n9) (.slice ol9 ll9 cl9) (.slice ob9 lb9 cb9)
  obtain ⟨r0, r1, r2, r3, r4, r5, r6⟩ := hput.res
  have hfin := hid (zw_move (S' := w.heap.size) hV (fun k hk _ => hon.2.2 k (by omega)) (by omega))
  have hBf := hBX.trans (hon.below (B := w.heap.size) (by omega))
  clear hV hon kX hput hBX
  go_wp2
  exact bodyPost_ret (v := tmV k9 neg9 (.slice od9 ld9 cd9) nm9 n9 (.slice ol9 ll9 cl9) (.slice ob9 lb9 cb9)) (by simp [results, Tryd.results18, go_sem, r0, r1, r2, r3, r4, r5, r6]) rfl ⟨_, rfl, hfin.out, hBf⟩
end Go.Proofs.YtgaecjocolihjabDoor
