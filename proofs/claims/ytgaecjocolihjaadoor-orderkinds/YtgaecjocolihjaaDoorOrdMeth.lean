/- How the parts at hand are compared, but for those with parts of their own. -/
import Derived.Test.YtgaecjocolihjaaDoorOrdWait
import Derived.Test.YtgaecjocolihjaaDoorOrdBytes
namespace Go.Proofs.YtgaecjocolihjaaDoor
open Go.ChangeShapes Go.WideShapes Go.ChangeAt Go.RowKit Go.Shelf
set_option linter.unusedSimpArgs false
set_option linter.unusedVariables false
set_option maxHeartbeats 1000000 in
theorem kindOf_w (k : Int) (neg : Bool) (od : Option Addr) (ld cd : Nat) (nm : ByteArray) (n : Int) (ol : Option Addr) (ll cl : Nat) (ob : Option Addr) (lb cb : Nat) (w : World) (h0 : 0 ≤ k) (h7 : k ≤ 7) :
    Calls Tryd.prog 59 #[tmV k neg (.slice od ld cd) nm n (.slice ol ll cl) (.slice ob lb cb)] w fun e w' => e = .returned (.int .i64 k) ∧ Below w.heap.size w w' := by
  have e1 : ¬ k < 0 := by omega
  have e2 : ¬ 7 < k := by omega
  go_enter Tryd.func59, Tryd.ntmps59
  go_wp2
  go_ret
  exact ⟨rfl, (Below.refl _ w).alloc (Nat.le_refl _) _⟩
set_option maxHeartbeats 1000000 in
theorem onumber_w (k : Int) (neg : Bool) (od : Option Addr) (ld cd : Nat) (nm : ByteArray) (n : Int) (ol : Option Addr) (ll cl : Nat) (ob : Option Addr) (lb cb : Nat) (w : World) :
    Calls Tryd.prog 54 #[tmV k neg (.slice od ld cd) nm n (.slice ol ll cl) (.slice ob lb cb)] w fun e w' => e = .returned (.agg #[.bool neg, .slice od ld cd]) ∧ Below w.heap.size w w' := by
  go_enter Tryd.func54, Tryd.ntmps54
  go_wp2
  exact bodyPost_ret (v := .agg #[.bool neg, .slice od ld cd]) (by simp [results, Tryd.results54, go_sem]) rfl ⟨rfl, ((Below.refl _ w).alloc (Nat.le_refl _) _).alloc (by simp) _⟩
theorem compareInt_z (x y : Int) : Lib.compareInt x y = cmpZ x y := by unfold Lib.compareInt cmpZ; rfl
set_option maxHeartbeats 2000000 in
set_option maxRecDepth 4000 in
theorem ints_w (g : Nat) (k : Int) (neg : Bool) (d : List Nat) (od : Option Addr) (cd : Nat) (nm : ByteArray) (n : Int) (l : List Tm) (ol : Option Addr) (cl : Nat) (b : List Nat) (ob : Option Addr) (cb : Nat) (k' : Int) (neg' : Bool) (d' : List Nat) (od' : Option Addr) (cd' : Nat) (nm' : ByteArray) (n' : Int) (l' : List Tm) (ol' : Option Addr) (cl' : Nat) (b' : List Nat) (ob' : Option Addr) (cb' : Nat) (v : Value) (w : World)
    (hW : WkO g (.int .i64 k) (.bool neg) (.slice od d.length cd) (.string nm) (.int .i64 n) (.slice ol l.length cl) (.slice ob b.length cb) (.int .i64 k') (.bool neg') (.slice od' d'.length cd') (.string nm') (.int .i64 n') (.slice ol' l'.length cl') (.slice ob' b'.length cb') v w) (hd : d.length ≤ 1000000) (hd' : d'.length ≤ 1000000) (h1 : Ls (Low w) od (lim d) w) (h2 : d.length ≤ cd) (h3 : Lm 4294967296 d) (h1' : Ls (Low w) od' (lim d') w) (h2' : d'.length ≤ cd') (h3' : Lm 4294967296 d') :
    Calls Tryd.prog 39 #[.pointer (some ⟨g, 0, none⟩)] w fun e w' => e = .returned (.int .i64 (cmpZ (sv neg (gval 4294967296 d)) (sv neg' (gval 4294967296 d')))) ∧ Below w.heap.size w w' := by
  obtain ⟨X, hX⟩ : ∃ X, sv neg (gval 4294967296 d) = X := ⟨_, rfl⟩
  obtain ⟨Y, hY⟩ : ∃ Y, sv neg' (gval 4294967296 d') = Y := ⟨_, rfl⟩
  rw [hX, hY]
  have q : ∀ w', Below w.heap.size w w' → Zs (Low w) w w' := fun w' hb k hk => hb.block k hk
  have hNX := hid (fun w' (hb : Below w.heap.size w w') => (show IsN (.agg #[.bool neg, .slice od d.length cd]) X 1000000 w' from ⟨neg, od, d, cd, rfl, (h1.zs (q w' hb)).lies, h2, h3, hX, hd⟩))
  have hNY := hid (fun w' (hb : Below w.heap.size w w') => (show IsN (.agg #[.bool neg', .slice od' d'.length cd']) Y 1000000 w' from ⟨neg', od', d', cd', rfl, (h1'.zs (q w' hb)).lies, h2', h3', hY, hd'⟩))
  have hS : Hid (∀ w', Below w.heap.size w w' → (w'.cell? ⟨g, 0, none⟩ = some (.int .i64 k) ∧ w'.cell? ⟨g, 1, none⟩ = some (.bool neg) ∧ w'.cell? ⟨g, 2, none⟩ = some (.slice od d.length cd) ∧ w'.cell? ⟨g, 3, none⟩ = some (.string nm) ∧ w'.cell? ⟨g, 4, none⟩ = some (.int .i64 n) ∧ w'.cell? ⟨g, 5, none⟩ = some (.slice ol l.length cl) ∧ w'.cell? ⟨g, 6, none⟩ = some (.slice ob b.length cb) ∧ w'.cell? ⟨g, 7, none⟩ = some (.int .i64 k') ∧ w'.cell? ⟨g, 8, none⟩ = some (.bool neg') ∧ w'.cell? ⟨g, 9, none⟩ = some (.slice od' d'.length cd') ∧ w'.cell? ⟨g, 10, none⟩ = some (.string nm') ∧ w'.cell? ⟨g, 11, none⟩ = some (.int .i64 n') ∧ w'.cell? ⟨g, 12, none⟩ = some (.slice ol' l'.length cl') ∧ w'.cell? ⟨g, 13, none⟩ = some (.slice ob' b'.length cb'))) := hid (fun w' hb => by
    obtain ⟨t0, t1, t2, t3, t4, t5, t6⟩ := (hW.below hb).ra
    obtain ⟨u0, u1, u2, u3, u4, u5, u6⟩ := (hW.below hb).rb
    exact ⟨t0, t1, t2, t3, t4, t5, t6, u0, u1, u2, u3, u4, u5, u6⟩)
  have hDr : Below w.heap.size w w.drew := (Below.refl _ w).drew
  clear hW
  clear hX hY q h1 h2 h3 h1' h2' h3' hd hd'
  go_enter Tryd.func39, Tryd.ntmps39
  go_wp2_with fail
  refine wp_region_held_drew (S := fun w' => w'.cell? ⟨g, 0, none⟩ = some (.int .i64 k) ∧ w'.cell? ⟨g, 1, none⟩ = some (.bool neg) ∧ w'.cell? ⟨g, 2, none⟩ = some (.slice od d.length cd) ∧ w'.cell? ⟨g, 3, none⟩ = some (.string nm) ∧ w'.cell? ⟨g, 4, none⟩ = some (.int .i64 n) ∧ w'.cell? ⟨g, 5, none⟩ = some (.slice ol l.length cl) ∧ w'.cell? ⟨g, 6, none⟩ = some (.slice ob b.length cb) ∧ w'.cell? ⟨g, 7, none⟩ = some (.int .i64 k') ∧ w'.cell? ⟨g, 8, none⟩ = some (.bool neg') ∧ w'.cell? ⟨g, 9, none⟩ = some (.slice od' d'.length cd') ∧ w'.cell? ⟨g, 10, none⟩ = some (.string nm') ∧ w'.cell? ⟨g, 11, none⟩ = some (.int .i64 n') ∧ w'.cell? ⟨g, 12, none⟩ = some (.slice ol' l'.length cl') ∧ w'.cell? ⟨g, 13, none⟩ = some (.slice ob' b'.length cb')) (by kernel_rfl) (by first | exact hS.out _ (Below.refl _ _) | exact hS.out _ hDr) (fun hHeld => ?_)
  refine wpAnyH_take (i := 0) (oi := _) (v := ?_) rfl (by kernel_rfl) (by kernel_rfl) (by kernel_rfl) (fun _ _ _ h => h) (Or.inl ⟨by rfl, ?_⟩) (by assumption) ?_
  rotate_left 1
  · (intro w hSw; (try dsimp only at hSw); go_simp; try with_reducible rfl)
  try simp (maxSteps := 10000000) only [List.getElem_toArray, List.getElem_cons_succ, List.getElem_cons_zero, Act.put, List.setIfInBounds_toArray, List.set_cons_zero, List.set_cons_succ]
  refine wpAnyH_take (i := 1) (oi := _) (v := ?_) rfl (by kernel_rfl) (by kernel_rfl) (by kernel_rfl) (fun _ _ _ h => h) (Or.inl ⟨by rfl, ?_⟩) (by assumption) ?_
  rotate_left 1
  · (intro w hSw; (try dsimp only at hSw); go_simp; try with_reducible rfl)
  try simp (maxSteps := 10000000) only [List.getElem_toArray, List.getElem_cons_succ, List.getElem_cons_zero, Act.put, List.setIfInBounds_toArray, List.set_cons_zero, List.set_cons_succ]
  refine wpAnyH_take (i := 2) (oi := _) (v := ?_) rfl (by kernel_rfl) (by kernel_rfl) (by kernel_rfl) (fun _ _ _ h => h) (Or.inl ⟨by rfl, ?_⟩) (by assumption) ?_
  rotate_left 1
  · (intro w hSw; (try dsimp only at hSw); go_simp; try with_reducible rfl)
  try simp (maxSteps := 10000000) only [List.getElem_toArray, List.getElem_cons_succ, List.getElem_cons_zero, Act.put, List.setIfInBounds_toArray, List.set_cons_zero, List.set_cons_succ]
  refine wpAnyH_take (i := 3) (oi := _) (v := ?_) rfl (by kernel_rfl) (by kernel_rfl) (by kernel_rfl) (fun _ _ _ h => h) (Or.inl ⟨by rfl, ?_⟩) (by assumption) ?_
  rotate_left 1
  · (intro w hSw; (try dsimp only at hSw); go_simp; try with_reducible rfl)
  try simp (maxSteps := 10000000) only [List.getElem_toArray, List.getElem_cons_succ, List.getElem_cons_zero, Act.put, List.setIfInBounds_toArray, List.set_cons_zero, List.set_cons_succ]
  refine wpAnyH_take (i := 5) (oi := _) (v := ?_) rfl (by kernel_rfl) (by kernel_rfl) (by kernel_rfl) (fun _ _ _ h => h) (Or.inl ⟨by rfl, ?_⟩) (by assumption) ?_
  rotate_left 1
  · (intro w hSw; (try dsimp only at hSw); go_simp; try with_reducible rfl)
  try simp (maxSteps := 10000000) only [List.getElem_toArray, List.getElem_cons_succ, List.getElem_cons_zero, Act.put, List.setIfInBounds_toArray, List.set_cons_zero, List.set_cons_succ]
  refine wpAnyH_take (i := 6) (oi := _) (v := ?_) rfl (by kernel_rfl) (by kernel_rfl) (by kernel_rfl) (fun _ _ _ h => h) (Or.inl ⟨by rfl, ?_⟩) (by assumption) ?_
  rotate_left 1
  · (intro w hSw; (try dsimp only at hSw); go_simp; try with_reducible rfl)
  try simp (maxSteps := 10000000) only [List.getElem_toArray, List.getElem_cons_succ, List.getElem_cons_zero, Act.put, List.setIfInBounds_toArray, List.set_cons_zero, List.set_cons_succ]
  refine wpAnyH_take (i := 7) (oi := _) (v := ?_) rfl (by kernel_rfl) (by kernel_rfl) (by kernel_rfl) (fun _ _ _ h => h) (Or.inl ⟨by rfl, ?_⟩) (by assumption) ?_
  rotate_left 1
  · (intro w hSw; (try dsimp only at hSw); go_simp; try with_reducible rfl)
  try simp (maxSteps := 10000000) only [List.getElem_toArray, List.getElem_cons_succ, List.getElem_cons_zero, Act.put, List.setIfInBounds_toArray, List.set_cons_zero, List.set_cons_succ]
  refine wpAnyH_take (i := 8) (oi := _) (v := ?_) rfl (by kernel_rfl) (by kernel_rfl) (by kernel_rfl) (fun _ _ _ h => h) (Or.inl ⟨by rfl, ?_⟩) (by assumption) ?_
  rotate_left 1
  · (intro w hSw; (try dsimp only at hSw); go_simp; try with_reducible rfl)
  try simp (maxSteps := 10000000) only [List.getElem_toArray, List.getElem_cons_succ, List.getElem_cons_zero, Act.put, List.setIfInBounds_toArray, List.set_cons_zero, List.set_cons_succ]
  refine wpAnyH_ready (rs := [4]) (by kernel_rfl) (by simp) ?_
  refine AllReadyH.cons rfl (fun K hK => ?_) AllReadyH.nil
  go_simp
  refine (onumber_w k neg od d.length cd nm n ol l.length cl ob b.length cb _).mono ?_
  rintro e wb ⟨rfl, brb⟩
  have c2 : Below w.heap.size w wb := below_and hDr (Nat.le_refl _) brb
  try go_simp
  refine hK.out _ _ ?_ (fun hHeld => ?_)
  · exact hS.out _ (by assumption)
  clear hK K
  try simp (maxSteps := 10000000) only [List.getElem_toArray, List.getElem_cons_succ, List.getElem_cons_zero, Act.put, List.setIfInBounds_toArray, List.set_cons_zero, List.set_cons_succ]
  refine wpAnyH_ready (rs := [9]) (by kernel_rfl) (by simp) ?_
  refine AllReadyH.cons rfl (fun K hK => ?_) AllReadyH.nil
  go_simp
  refine (onumber_w k' neg' od' d'.length cd' nm' n' ol' l'.length cl' ob' b'.length cb' _).mono ?_
  rintro e wc ⟨rfl, brc⟩
  have c3 : Below w.heap.size w wc := below_and c2 (Nat.le_refl _) brc
  try go_simp
  refine hK.out _ _ ?_ (fun hHeld => ?_)
  · exact hS.out _ (by assumption)
  clear hK K
  try simp (maxSteps := 10000000) only [List.getElem_toArray, List.getElem_cons_succ, List.getElem_cons_zero, Act.put, List.setIfInBounds_toArray, List.set_cons_zero, List.set_cons_succ]
  refine wpAnyH_ready (rs := [10]) (by kernel_rfl) (by simp) ?_
  refine AllReadyH.cons rfl (fun K hK => ?_) AllReadyH.nil
  go_simp
  refine (Compare_w _ _ X Y 1000000 _ (by omega) (hNX.out _ c3) (hNY.out _ c3)).mono ?_
  rintro e wd ⟨rfl, brd⟩
  have c4 : Below w.heap.size w wd := below_and c3 (Nat.le_refl _) brd
  try go_simp
  refine hK.out _ _ ?_ (fun hHeld => ?_)
  · exact hS.out _ (by assumption)
  clear hK K
  try simp (maxSteps := 10000000) only [List.getElem_toArray, List.getElem_cons_succ, List.getElem_cons_zero, Act.put, List.setIfInBounds_toArray, List.set_cons_zero, List.set_cons_succ]
  refine wpAnyH_take (i := 11) (oi := _) (v := ?_) rfl (by kernel_rfl) (by kernel_rfl) (by kernel_rfl) (fun _ _ _ h => h) (Or.inl ⟨by rfl, ?_⟩) (by assumption) ?_
  rotate_left 1
  · (intro w hSw; (try dsimp only at hSw); go_simp; try with_reducible rfl)
  try simp (maxSteps := 10000000) only [List.getElem_toArray, List.getElem_cons_succ, List.getElem_cons_zero, Act.put, List.setIfInBounds_toArray, List.set_cons_zero, List.set_cons_succ]
  refine wpAnyH_done (by kernel_rfl) ?_ _
  go_wp2
  go_ret
  exact ⟨rfl, c4⟩
set_option maxHeartbeats 2000000 in
set_option maxRecDepth 4000 in
theorem atoms_w (g : Nat) (k : Int) (neg : Bool) (d : List Nat) (od : Option Addr) (cd : Nat) (nm : ByteArray) (n : Int) (l : List Tm) (ol : Option Addr) (cl : Nat) (b : List Nat) (ob : Option Addr) (cb : Nat) (k' : Int) (neg' : Bool) (d' : List Nat) (od' : Option Addr) (cd' : Nat) (nm' : ByteArray) (n' : Int) (l' : List Tm) (ol' : Option Addr) (cl' : Nat) (b' : List Nat) (ob' : Option Addr) (cb' : Nat) (v : Value) (w : World)
    (hW : WkO g (.int .i64 k) (.bool neg) (.slice od d.length cd) (.string nm) (.int .i64 n) (.slice ol l.length cl) (.slice ob b.length cb) (.int .i64 k') (.bool neg') (.slice od' d'.length cd') (.string nm') (.int .i64 n') (.slice ol' l'.length cl') (.slice ob' b'.length cb') v w) (hs : nm.size ≤ 1000000) (hs' : nm'.size ≤ 1000000) (hT : Tabs w) :
    Calls Tryd.prog 40 #[.pointer (some ⟨g, 0, none⟩)] w fun e w' => e = .returned (.int .i64 (lessZ nm.data.toList nm'.data.toList)) ∧ Below w.heap.size w w' := by
  have hS : Hid (∀ w', Below w.heap.size w w' → (w'.cell? ⟨g, 0, none⟩ = some (.int .i64 k) ∧ w'.cell? ⟨g, 1, none⟩ = some (.bool neg) ∧ w'.cell? ⟨g, 2, none⟩ = some (.slice od d.length cd) ∧ w'.cell? ⟨g, 3, none⟩ = some (.string nm) ∧ w'.cell? ⟨g, 4, none⟩ = some (.int .i64 n) ∧ w'.cell? ⟨g, 5, none⟩ = some (.slice ol l.length cl) ∧ w'.cell? ⟨g, 6, none⟩ = some (.slice ob b.length cb) ∧ w'.cell? ⟨g, 7, none⟩ = some (.int .i64 k') ∧ w'.cell? ⟨g, 8, none⟩ = some (.bool neg') ∧ w'.cell? ⟨g, 9, none⟩ = some (.slice od' d'.length cd') ∧ w'.cell? ⟨g, 10, none⟩ = some (.string nm') ∧ w'.cell? ⟨g, 11, none⟩ = some (.int .i64 n') ∧ w'.cell? ⟨g, 12, none⟩ = some (.slice ol' l'.length cl') ∧ w'.cell? ⟨g, 13, none⟩ = some (.slice ob' b'.length cb'))) := hid (fun w' hb => by
    obtain ⟨t0, t1, t2, t3, t4, t5, t6⟩ := (hW.below hb).ra
    obtain ⟨u0, u1, u2, u3, u4, u5, u6⟩ := (hW.below hb).rb
    exact ⟨t0, t1, t2, t3, t4, t5, t6, u0, u1, u2, u3, u4, u5, u6⟩)
  have hDr : Below w.heap.size w w.drew := (Below.refl _ w).drew
  clear hW
  go_enter Tryd.func40, Tryd.ntmps40
  go_wp2_with fail
  refine wp_region_held_drew (S := fun w' => w'.cell? ⟨g, 0, none⟩ = some (.int .i64 k) ∧ w'.cell? ⟨g, 1, none⟩ = some (.bool neg) ∧ w'.cell? ⟨g, 2, none⟩ = some (.slice od d.length cd) ∧ w'.cell? ⟨g, 3, none⟩ = some (.string nm) ∧ w'.cell? ⟨g, 4, none⟩ = some (.int .i64 n) ∧ w'.cell? ⟨g, 5, none⟩ = some (.slice ol l.length cl) ∧ w'.cell? ⟨g, 6, none⟩ = some (.slice ob b.length cb) ∧ w'.cell? ⟨g, 7, none⟩ = some (.int .i64 k') ∧ w'.cell? ⟨g, 8, none⟩ = some (.bool neg') ∧ w'.cell? ⟨g, 9, none⟩ = some (.slice od' d'.length cd') ∧ w'.cell? ⟨g, 10, none⟩ = some (.string nm') ∧ w'.cell? ⟨g, 11, none⟩ = some (.int .i64 n') ∧ w'.cell? ⟨g, 12, none⟩ = some (.slice ol' l'.length cl') ∧ w'.cell? ⟨g, 13, none⟩ = some (.slice ob' b'.length cb')) (by kernel_rfl) (by first | exact hS.out _ (Below.refl _ _) | exact hS.out _ hDr) (fun hHeld => ?_)
  refine wpAnyH_take (i := 0) (oi := _) (v := ?_) rfl (by kernel_rfl) (by kernel_rfl) (by kernel_rfl) (fun _ _ _ h => h) (Or.inl ⟨by rfl, ?_⟩) (by assumption) ?_
  rotate_left 1
  · (intro w hSw; (try dsimp only at hSw); go_simp; try with_reducible rfl)
  try simp (maxSteps := 10000000) only [List.getElem_toArray, List.getElem_cons_succ, List.getElem_cons_zero, Act.put, List.setIfInBounds_toArray, List.set_cons_zero, List.set_cons_succ]
  refine wpAnyH_take (i := 1) (oi := _) (v := ?_) rfl (by kernel_rfl) (by kernel_rfl) (by kernel_rfl) (fun _ _ _ h => h) (Or.inl ⟨by rfl, ?_⟩) (by assumption) ?_
  rotate_left 1
  · (intro w hSw; (try dsimp only at hSw); go_simp; try with_reducible rfl)
  try simp (maxSteps := 10000000) only [List.getElem_toArray, List.getElem_cons_succ, List.getElem_cons_zero, Act.put, List.setIfInBounds_toArray, List.set_cons_zero, List.set_cons_succ]
  refine wpAnyH_take (i := 2) (oi := _) (v := ?_) rfl (by kernel_rfl) (by kernel_rfl) (by kernel_rfl) (fun _ _ _ h => h) (Or.inl ⟨by rfl, ?_⟩) (by assumption) ?_
  rotate_left 1
  · (intro w hSw; (try dsimp only at hSw); go_simp; try with_reducible rfl)
  try simp (maxSteps := 10000000) only [List.getElem_toArray, List.getElem_cons_succ, List.getElem_cons_zero, Act.put, List.setIfInBounds_toArray, List.set_cons_zero, List.set_cons_succ]
  refine wpAnyH_take (i := 3) (oi := _) (v := ?_) rfl (by kernel_rfl) (by kernel_rfl) (by kernel_rfl) (fun _ _ _ h => h) (Or.inl ⟨by rfl, ?_⟩) (by assumption) ?_
  rotate_left 1
  · (intro w hSw; (try dsimp only at hSw); go_simp; try with_reducible rfl)
  try simp (maxSteps := 10000000) only [List.getElem_toArray, List.getElem_cons_succ, List.getElem_cons_zero, Act.put, List.setIfInBounds_toArray, List.set_cons_zero, List.set_cons_succ]
  refine wpAnyH_take (i := 4) (oi := _) (v := ?_) rfl (by kernel_rfl) (by kernel_rfl) (by kernel_rfl) (fun _ _ _ h => h) (Or.inl ⟨by rfl, ?_⟩) (by assumption) ?_
  rotate_left 1
  · (intro w hSw; (try dsimp only at hSw); go_simp; try with_reducible rfl)
  try simp (maxSteps := 10000000) only [List.getElem_toArray, List.getElem_cons_succ, List.getElem_cons_zero, Act.put, List.setIfInBounds_toArray, List.set_cons_zero, List.set_cons_succ]
  refine wpAnyH_take (i := 5) (oi := _) (v := ?_) rfl (by kernel_rfl) (by kernel_rfl) (by kernel_rfl) (fun _ _ _ h => h) (Or.inl ⟨by rfl, ?_⟩) (by assumption) ?_
  rotate_left 1
  · (intro w hSw; (try dsimp only at hSw); go_simp; try with_reducible rfl)
  try simp (maxSteps := 10000000) only [List.getElem_toArray, List.getElem_cons_succ, List.getElem_cons_zero, Act.put, List.setIfInBounds_toArray, List.set_cons_zero, List.set_cons_succ]
  refine wpAnyH_take (i := 6) (oi := _) (v := ?_) rfl (by kernel_rfl) (by kernel_rfl) (by kernel_rfl) (fun _ _ _ h => h) (Or.inl ⟨by rfl, ?_⟩) (by assumption) ?_
  rotate_left 1
  · (intro w hSw; (try dsimp only at hSw); go_simp; try with_reducible rfl)
  try simp (maxSteps := 10000000) only [List.getElem_toArray, List.getElem_cons_succ, List.getElem_cons_zero, Act.put, List.setIfInBounds_toArray, List.set_cons_zero, List.set_cons_succ]
  refine wpAnyH_take (i := 7) (oi := _) (v := ?_) rfl (by kernel_rfl) (by kernel_rfl) (by kernel_rfl) (fun _ _ _ h => h) (Or.inl ⟨by rfl, ?_⟩) (by assumption) ?_
  rotate_left 1
  · (intro w hSw; (try dsimp only at hSw); go_simp; try with_reducible rfl)
  try simp (maxSteps := 10000000) only [List.getElem_toArray, List.getElem_cons_succ, List.getElem_cons_zero, Act.put, List.setIfInBounds_toArray, List.set_cons_zero, List.set_cons_succ]
  refine wpAnyH_take (i := 8) (oi := _) (v := ?_) rfl (by kernel_rfl) (by kernel_rfl) (by kernel_rfl) (fun _ _ _ h => h) (Or.inl ⟨by rfl, ?_⟩) (by assumption) ?_
  rotate_left 1
  · (intro w hSw; (try dsimp only at hSw); go_simp; try with_reducible rfl)
  try simp (maxSteps := 10000000) only [List.getElem_toArray, List.getElem_cons_succ, List.getElem_cons_zero, Act.put, List.setIfInBounds_toArray, List.set_cons_zero, List.set_cons_succ]
  refine wpAnyH_take (i := 9) (oi := _) (v := ?_) rfl (by kernel_rfl) (by kernel_rfl) (by kernel_rfl) (fun _ _ _ h => h) (Or.inl ⟨by rfl, ?_⟩) (by assumption) ?_
  rotate_left 1
  · (intro w hSw; (try dsimp only at hSw); go_simp; try with_reducible rfl)
  try simp (maxSteps := 10000000) only [List.getElem_toArray, List.getElem_cons_succ, List.getElem_cons_zero, Act.put, List.setIfInBounds_toArray, List.set_cons_zero, List.set_cons_succ]
  refine wpAnyH_ready (rs := [10]) (by kernel_rfl) (by simp) ?_
  refine AllReadyH.cons rfl (fun K hK => ?_) AllReadyH.nil
  go_simp
  refine (less_w nm nm' _ hs hs' (hT.below hDr)).mono ?_
  rintro e wd ⟨rfl, brd⟩
  have c4 : Below w.heap.size w wd := below_and hDr (Nat.le_refl _) brd
  try go_simp
  refine hK.out _ _ ?_ (fun hHeld => ?_)
  · exact hS.out _ (by assumption)
  clear hK K
  try simp (maxSteps := 10000000) only [List.getElem_toArray, List.getElem_cons_succ, List.getElem_cons_zero, Act.put, List.setIfInBounds_toArray, List.set_cons_zero, List.set_cons_succ]
  refine wpAnyH_take (i := 11) (oi := _) (v := ?_) rfl (by kernel_rfl) (by kernel_rfl) (by kernel_rfl) (fun _ _ _ h => h) (Or.inl ⟨by rfl, ?_⟩) (by assumption) ?_
  rotate_left 1
  · (intro w hSw; (try dsimp only at hSw); go_simp; try with_reducible rfl)
  try simp (maxSteps := 10000000) only [List.getElem_toArray, List.getElem_cons_succ, List.getElem_cons_zero, Act.put, List.setIfInBounds_toArray, List.set_cons_zero, List.set_cons_succ]
  refine wpAnyH_done (by kernel_rfl) ?_ _
  go_wp2
  go_ret
  exact ⟨rfl, c4⟩
set_option maxHeartbeats 2000000 in
set_option maxRecDepth 4000 in
theorem numbers_w (g : Nat) (k : Int) (neg : Bool) (d : List Nat) (od : Option Addr) (cd : Nat) (nm : ByteArray) (n : Int) (l : List Tm) (ol : Option Addr) (cl : Nat) (b : List Nat) (ob : Option Addr) (cb : Nat) (k' : Int) (neg' : Bool) (d' : List Nat) (od' : Option Addr) (cd' : Nat) (nm' : ByteArray) (n' : Int) (l' : List Tm) (ol' : Option Addr) (cl' : Nat) (b' : List Nat) (ob' : Option Addr) (cb' : Nat) (v : Value) (w : World)
    (hW : WkO g (.int .i64 k) (.bool neg) (.slice od d.length cd) (.string nm) (.int .i64 n) (.slice ol l.length cl) (.slice ob b.length cb) (.int .i64 k') (.bool neg') (.slice od' d'.length cd') (.string nm') (.int .i64 n') (.slice ol' l'.length cl') (.slice ob' b'.length cb') v w) :
    Calls Tryd.prog 41 #[.pointer (some ⟨g, 0, none⟩)] w fun e w' => e = .returned (.int .i64 (cmpZ n n')) ∧ Below w.heap.size w w' := by
  have hS : Hid (∀ w', Below w.heap.size w w' → (w'.cell? ⟨g, 0, none⟩ = some (.int .i64 k) ∧ w'.cell? ⟨g, 1, none⟩ = some (.bool neg) ∧ w'.cell? ⟨g, 2, none⟩ = some (.slice od d.length cd) ∧ w'.cell? ⟨g, 3, none⟩ = some (.string nm) ∧ w'.cell? ⟨g, 4, none⟩ = some (.int .i64 n) ∧ w'.cell? ⟨g, 5, none⟩ = some (.slice ol l.length cl) ∧ w'.cell? ⟨g, 6, none⟩ = some (.slice ob b.length cb) ∧ w'.cell? ⟨g, 7, none⟩ = some (.int .i64 k') ∧ w'.cell? ⟨g, 8, none⟩ = some (.bool neg') ∧ w'.cell? ⟨g, 9, none⟩ = some (.slice od' d'.length cd') ∧ w'.cell? ⟨g, 10, none⟩ = some (.string nm') ∧ w'.cell? ⟨g, 11, none⟩ = some (.int .i64 n') ∧ w'.cell? ⟨g, 12, none⟩ = some (.slice ol' l'.length cl') ∧ w'.cell? ⟨g, 13, none⟩ = some (.slice ob' b'.length cb'))) := hid (fun w' hb => by
    obtain ⟨t0, t1, t2, t3, t4, t5, t6⟩ := (hW.below hb).ra
    obtain ⟨u0, u1, u2, u3, u4, u5, u6⟩ := (hW.below hb).rb
    exact ⟨t0, t1, t2, t3, t4, t5, t6, u0, u1, u2, u3, u4, u5, u6⟩)
  have hDr : Below w.heap.size w w.drew := (Below.refl _ w).drew
  clear hW
  go_enter Tryd.func41, Tryd.ntmps41
  go_wp2_with fail
  refine wp_region_held_drew (S := fun w' => w'.cell? ⟨g, 0, none⟩ = some (.int .i64 k) ∧ w'.cell? ⟨g, 1, none⟩ = some (.bool neg) ∧ w'.cell? ⟨g, 2, none⟩ = some (.slice od d.length cd) ∧ w'.cell? ⟨g, 3, none⟩ = some (.string nm) ∧ w'.cell? ⟨g, 4, none⟩ = some (.int .i64 n) ∧ w'.cell? ⟨g, 5, none⟩ = some (.slice ol l.length cl) ∧ w'.cell? ⟨g, 6, none⟩ = some (.slice ob b.length cb) ∧ w'.cell? ⟨g, 7, none⟩ = some (.int .i64 k') ∧ w'.cell? ⟨g, 8, none⟩ = some (.bool neg') ∧ w'.cell? ⟨g, 9, none⟩ = some (.slice od' d'.length cd') ∧ w'.cell? ⟨g, 10, none⟩ = some (.string nm') ∧ w'.cell? ⟨g, 11, none⟩ = some (.int .i64 n') ∧ w'.cell? ⟨g, 12, none⟩ = some (.slice ol' l'.length cl') ∧ w'.cell? ⟨g, 13, none⟩ = some (.slice ob' b'.length cb')) (by kernel_rfl) (by first | exact hS.out _ (Below.refl _ _) | exact hS.out _ hDr) (fun hHeld => ?_)
  refine wpAnyH_take (i := 0) (oi := _) (v := ?_) rfl (by kernel_rfl) (by kernel_rfl) (by kernel_rfl) (fun _ _ _ h => h) (Or.inl ⟨by rfl, ?_⟩) (by assumption) ?_
  rotate_left 1
  · (intro w hSw; (try dsimp only at hSw); go_simp; try with_reducible rfl)
  try simp (maxSteps := 10000000) only [List.getElem_toArray, List.getElem_cons_succ, List.getElem_cons_zero, Act.put, List.setIfInBounds_toArray, List.set_cons_zero, List.set_cons_succ]
  refine wpAnyH_take (i := 1) (oi := _) (v := ?_) rfl (by kernel_rfl) (by kernel_rfl) (by kernel_rfl) (fun _ _ _ h => h) (Or.inl ⟨by rfl, ?_⟩) (by assumption) ?_
  rotate_left 1
  · (intro w hSw; (try dsimp only at hSw); go_simp; try with_reducible rfl)
  try simp (maxSteps := 10000000) only [List.getElem_toArray, List.getElem_cons_succ, List.getElem_cons_zero, Act.put, List.setIfInBounds_toArray, List.set_cons_zero, List.set_cons_succ]
  refine wpAnyH_take (i := 2) (oi := _) (v := ?_) rfl (by kernel_rfl) (by kernel_rfl) (by kernel_rfl) (fun _ _ _ h => h) (Or.inl ⟨by rfl, ?_⟩) (by assumption) ?_
  rotate_left 1
  · (intro w hSw; (try dsimp only at hSw); go_simp; try with_reducible rfl)
  try simp (maxSteps := 10000000) only [List.getElem_toArray, List.getElem_cons_succ, List.getElem_cons_zero, Act.put, List.setIfInBounds_toArray, List.set_cons_zero, List.set_cons_succ]
  refine wpAnyH_take (i := 3) (oi := _) (v := ?_) rfl (by kernel_rfl) (by kernel_rfl) (by kernel_rfl) (fun _ _ _ h => h) (Or.inl ⟨by rfl, ?_⟩) (by assumption) ?_
  rotate_left 1
  · (intro w hSw; (try dsimp only at hSw); go_simp; try with_reducible rfl)
  try simp (maxSteps := 10000000) only [List.getElem_toArray, List.getElem_cons_succ, List.getElem_cons_zero, Act.put, List.setIfInBounds_toArray, List.set_cons_zero, List.set_cons_succ]
  refine wpAnyH_take (i := 4) (oi := _) (v := ?_) rfl (by kernel_rfl) (by kernel_rfl) (by kernel_rfl) (fun _ _ _ h => h) (Or.inl ⟨by rfl, ?_⟩) (by assumption) ?_
  rotate_left 1
  · (intro w hSw; (try dsimp only at hSw); go_simp; try with_reducible rfl)
  try simp (maxSteps := 10000000) only [List.getElem_toArray, List.getElem_cons_succ, List.getElem_cons_zero, Act.put, List.setIfInBounds_toArray, List.set_cons_zero, List.set_cons_succ]
  refine wpAnyH_take (i := 5) (oi := _) (v := ?_) rfl (by kernel_rfl) (by kernel_rfl) (by kernel_rfl) (fun _ _ _ h => h) (Or.inl ⟨by rfl, ?_⟩) (by assumption) ?_
  rotate_left 1
  · (intro w hSw; (try dsimp only at hSw); go_simp; try with_reducible rfl)
  try simp (maxSteps := 10000000) only [List.getElem_toArray, List.getElem_cons_succ, List.getElem_cons_zero, Act.put, List.setIfInBounds_toArray, List.set_cons_zero, List.set_cons_succ]
  refine wpAnyH_take (i := 6) (oi := _) (v := ?_) rfl (by kernel_rfl) (by kernel_rfl) (by kernel_rfl) (fun _ _ _ h => h) (Or.inl ⟨by rfl, ?_⟩) (by assumption) ?_
  rotate_left 1
  · (intro w hSw; (try dsimp only at hSw); go_simp; try with_reducible rfl)
  try simp (maxSteps := 10000000) only [List.getElem_toArray, List.getElem_cons_succ, List.getElem_cons_zero, Act.put, List.setIfInBounds_toArray, List.set_cons_zero, List.set_cons_succ]
  refine wpAnyH_take (i := 7) (oi := _) (v := ?_) rfl (by kernel_rfl) (by kernel_rfl) (by kernel_rfl) (fun _ _ _ h => h) (Or.inl ⟨by rfl, ?_⟩) (by assumption) ?_
  rotate_left 1
  · (intro w hSw; (try dsimp only at hSw); go_simp; try with_reducible rfl)
  try simp (maxSteps := 10000000) only [List.getElem_toArray, List.getElem_cons_succ, List.getElem_cons_zero, Act.put, List.setIfInBounds_toArray, List.set_cons_zero, List.set_cons_succ]
  refine wpAnyH_take (i := 8) (oi := _) (v := ?_) rfl (by kernel_rfl) (by kernel_rfl) (by kernel_rfl) (fun _ _ _ h => h) (Or.inl ⟨by rfl, ?_⟩) (by assumption) ?_
  rotate_left 1
  · (intro w hSw; (try dsimp only at hSw); go_simp; try with_reducible rfl)
  try simp (maxSteps := 10000000) only [List.getElem_toArray, List.getElem_cons_succ, List.getElem_cons_zero, Act.put, List.setIfInBounds_toArray, List.set_cons_zero, List.set_cons_succ]
  refine wpAnyH_take (i := 9) (oi := _) (v := ?_) rfl (by kernel_rfl) (by kernel_rfl) (by kernel_rfl) (fun _ _ _ h => h) (Or.inl ⟨by rfl, ?_⟩) (by assumption) ?_
  rotate_left 1
  · (intro w hSw; (try dsimp only at hSw); go_simp; try with_reducible rfl)
  try simp (maxSteps := 10000000) only [List.getElem_toArray, List.getElem_cons_succ, List.getElem_cons_zero, Act.put, List.setIfInBounds_toArray, List.set_cons_zero, List.set_cons_succ]
  refine wpAnyH_ready (rs := [10]) (by kernel_rfl) (by simp) ?_
  refine AllReadyH.cons rfl (fun K hK => ?_) AllReadyH.nil
  go_simp
  refine (compareInt_w _ _ _).mono ?_
  rintro e wd ⟨rfl, rfl⟩
  try go_simp
  refine hK.out _ _ ?_ (fun hHeld => ?_)
  · exact hS.out _ (by assumption)
  clear hK K
  try simp (maxSteps := 10000000) only [List.getElem_toArray, List.getElem_cons_succ, List.getElem_cons_zero, Act.put, List.setIfInBounds_toArray, List.set_cons_zero, List.set_cons_succ]
  refine wpAnyH_take (i := 11) (oi := _) (v := ?_) rfl (by kernel_rfl) (by kernel_rfl) (by kernel_rfl) (fun _ _ _ h => h) (Or.inl ⟨by rfl, ?_⟩) (by assumption) ?_
  rotate_left 1
  · (intro w hSw; (try dsimp only at hSw); go_simp; try with_reducible rfl)
  try simp (maxSteps := 10000000) only [List.getElem_toArray, List.getElem_cons_succ, List.getElem_cons_zero, Act.put, List.setIfInBounds_toArray, List.set_cons_zero, List.set_cons_succ]
  refine wpAnyH_done (by kernel_rfl) ?_ _
  go_wp2
  go_ret
  exact ⟨by rw [compareInt_z]; rfl, hDr⟩
set_option maxHeartbeats 2000000 in
set_option maxRecDepth 4000 in
theorem bins_w (g : Nat) (k : Int) (neg : Bool) (d : List Nat) (od : Option Addr) (cd : Nat) (nm : ByteArray) (n : Int) (l : List Tm) (ol : Option Addr) (cl : Nat) (b : List Nat) (ob : Option Addr) (cb : Nat) (k' : Int) (neg' : Bool) (d' : List Nat) (od' : Option Addr) (cd' : Nat) (nm' : ByteArray) (n' : Int) (l' : List Tm) (ol' : Option Addr) (cl' : Nat) (b' : List Nat) (ob' : Option Addr) (cb' : Nat) (v : Value) (w : World)
    (hW : WkO g (.int .i64 k) (.bool neg) (.slice od d.length cd) (.string nm) (.int .i64 n) (.slice ol l.length cl) (.slice ob b.length cb) (.int .i64 k') (.bool neg') (.slice od' d'.length cd') (.string nm') (.int .i64 n') (.slice ol' l'.length cl') (.slice ob' b'.length cb') v w) (h1 : LsB (Low w) ob b w) (h1' : LsB (Low w) ob' b' w) :
    Calls Tryd.prog 45 #[.pointer (some ⟨g, 0, none⟩)] w fun e w' => e = .returned (.int .i64 (lexZ b b')) ∧ Below w.heap.size w w' := by
  have hS : Hid (∀ w', Below w.heap.size w w' → (w'.cell? ⟨g, 0, none⟩ = some (.int .i64 k) ∧ w'.cell? ⟨g, 1, none⟩ = some (.bool neg) ∧ w'.cell? ⟨g, 2, none⟩ = some (.slice od d.length cd) ∧ w'.cell? ⟨g, 3, none⟩ = some (.string nm) ∧ w'.cell? ⟨g, 4, none⟩ = some (.int .i64 n) ∧ w'.cell? ⟨g, 5, none⟩ = some (.slice ol l.length cl) ∧ w'.cell? ⟨g, 6, none⟩ = some (.slice ob b.length cb) ∧ w'.cell? ⟨g, 7, none⟩ = some (.int .i64 k') ∧ w'.cell? ⟨g, 8, none⟩ = some (.bool neg') ∧ w'.cell? ⟨g, 9, none⟩ = some (.slice od' d'.length cd') ∧ w'.cell? ⟨g, 10, none⟩ = some (.string nm') ∧ w'.cell? ⟨g, 11, none⟩ = some (.int .i64 n') ∧ w'.cell? ⟨g, 12, none⟩ = some (.slice ol' l'.length cl') ∧ w'.cell? ⟨g, 13, none⟩ = some (.slice ob' b'.length cb'))) := hid (fun w' hb => by
    obtain ⟨t0, t1, t2, t3, t4, t5, t6⟩ := (hW.below hb).ra
    obtain ⟨u0, u1, u2, u3, u4, u5, u6⟩ := (hW.below hb).rb
    exact ⟨t0, t1, t2, t3, t4, t5, t6, u0, u1, u2, u3, u4, u5, u6⟩)
  have hDr : Below w.heap.size w w.drew := (Below.refl _ w).drew
  clear hW
  go_enter Tryd.func45, Tryd.ntmps45
  go_wp2_with fail
  refine wp_region_held_drew (S := fun w' => w'.cell? ⟨g, 0, none⟩ = some (.int .i64 k) ∧ w'.cell? ⟨g, 1, none⟩ = some (.bool neg) ∧ w'.cell? ⟨g, 2, none⟩ = some (.slice od d.length cd) ∧ w'.cell? ⟨g, 3, none⟩ = some (.string nm) ∧ w'.cell? ⟨g, 4, none⟩ = some (.int .i64 n) ∧ w'.cell? ⟨g, 5, none⟩ = some (.slice ol l.length cl) ∧ w'.cell? ⟨g, 6, none⟩ = some (.slice ob b.length cb) ∧ w'.cell? ⟨g, 7, none⟩ = some (.int .i64 k') ∧ w'.cell? ⟨g, 8, none⟩ = some (.bool neg') ∧ w'.cell? ⟨g, 9, none⟩ = some (.slice od' d'.length cd') ∧ w'.cell? ⟨g, 10, none⟩ = some (.string nm') ∧ w'.cell? ⟨g, 11, none⟩ = some (.int .i64 n') ∧ w'.cell? ⟨g, 12, none⟩ = some (.slice ol' l'.length cl') ∧ w'.cell? ⟨g, 13, none⟩ = some (.slice ob' b'.length cb')) (by kernel_rfl) (by first | exact hS.out _ (Below.refl _ _) | exact hS.out _ hDr) (fun hHeld => ?_)
  refine wpAnyH_take (i := 0) (oi := _) (v := ?_) rfl (by kernel_rfl) (by kernel_rfl) (by kernel_rfl) (fun _ _ _ h => h) (Or.inl ⟨by rfl, ?_⟩) (by assumption) ?_
  rotate_left 1
  · (intro w hSw; (try dsimp only at hSw); go_simp; try with_reducible rfl)
  try simp (maxSteps := 10000000) only [List.getElem_toArray, List.getElem_cons_succ, List.getElem_cons_zero, Act.put, List.setIfInBounds_toArray, List.set_cons_zero, List.set_cons_succ]
  refine wpAnyH_take (i := 1) (oi := _) (v := ?_) rfl (by kernel_rfl) (by kernel_rfl) (by kernel_rfl) (fun _ _ _ h => h) (Or.inl ⟨by rfl, ?_⟩) (by assumption) ?_
  rotate_left 1
  · (intro w hSw; (try dsimp only at hSw); go_simp; try with_reducible rfl)
  try simp (maxSteps := 10000000) only [List.getElem_toArray, List.getElem_cons_succ, List.getElem_cons_zero, Act.put, List.setIfInBounds_toArray, List.set_cons_zero, List.set_cons_succ]
  refine wpAnyH_take (i := 2) (oi := _) (v := ?_) rfl (by kernel_rfl) (by kernel_rfl) (by kernel_rfl) (fun _ _ _ h => h) (Or.inl ⟨by rfl, ?_⟩) (by assumption) ?_
  rotate_left 1
  · (intro w hSw; (try dsimp only at hSw); go_simp; try with_reducible rfl)
  try simp (maxSteps := 10000000) only [List.getElem_toArray, List.getElem_cons_succ, List.getElem_cons_zero, Act.put, List.setIfInBounds_toArray, List.set_cons_zero, List.set_cons_succ]
  refine wpAnyH_take (i := 3) (oi := _) (v := ?_) rfl (by kernel_rfl) (by kernel_rfl) (by kernel_rfl) (fun _ _ _ h => h) (Or.inl ⟨by rfl, ?_⟩) (by assumption) ?_
  rotate_left 1
  · (intro w hSw; (try dsimp only at hSw); go_simp; try with_reducible rfl)
  try simp (maxSteps := 10000000) only [List.getElem_toArray, List.getElem_cons_succ, List.getElem_cons_zero, Act.put, List.setIfInBounds_toArray, List.set_cons_zero, List.set_cons_succ]
  refine wpAnyH_take (i := 4) (oi := _) (v := ?_) rfl (by kernel_rfl) (by kernel_rfl) (by kernel_rfl) (fun _ _ _ h => h) (Or.inl ⟨by rfl, ?_⟩) (by assumption) ?_
  rotate_left 1
  · (intro w hSw; (try dsimp only at hSw); go_simp; try with_reducible rfl)
  try simp (maxSteps := 10000000) only [List.getElem_toArray, List.getElem_cons_succ, List.getElem_cons_zero, Act.put, List.setIfInBounds_toArray, List.set_cons_zero, List.set_cons_succ]
  refine wpAnyH_take (i := 5) (oi := _) (v := ?_) rfl (by kernel_rfl) (by kernel_rfl) (by kernel_rfl) (fun _ _ _ h => h) (Or.inl ⟨by rfl, ?_⟩) (by assumption) ?_
  rotate_left 1
  · (intro w hSw; (try dsimp only at hSw); go_simp; try with_reducible rfl)
  try simp (maxSteps := 10000000) only [List.getElem_toArray, List.getElem_cons_succ, List.getElem_cons_zero, Act.put, List.setIfInBounds_toArray, List.set_cons_zero, List.set_cons_succ]
  refine wpAnyH_take (i := 6) (oi := _) (v := ?_) rfl (by kernel_rfl) (by kernel_rfl) (by kernel_rfl) (fun _ _ _ h => h) (Or.inl ⟨by rfl, ?_⟩) (by assumption) ?_
  rotate_left 1
  · (intro w hSw; (try dsimp only at hSw); go_simp; try with_reducible rfl)
  try simp (maxSteps := 10000000) only [List.getElem_toArray, List.getElem_cons_succ, List.getElem_cons_zero, Act.put, List.setIfInBounds_toArray, List.set_cons_zero, List.set_cons_succ]
  refine wpAnyH_take (i := 7) (oi := _) (v := ?_) rfl (by kernel_rfl) (by kernel_rfl) (by kernel_rfl) (fun _ _ _ h => h) (Or.inl ⟨by rfl, ?_⟩) (by assumption) ?_
  rotate_left 1
  · (intro w hSw; (try dsimp only at hSw); go_simp; try with_reducible rfl)
  try simp (maxSteps := 10000000) only [List.getElem_toArray, List.getElem_cons_succ, List.getElem_cons_zero, Act.put, List.setIfInBounds_toArray, List.set_cons_zero, List.set_cons_succ]
  refine wpAnyH_take (i := 8) (oi := _) (v := ?_) rfl (by kernel_rfl) (by kernel_rfl) (by kernel_rfl) (fun _ _ _ h => h) (Or.inl ⟨by rfl, ?_⟩) (by assumption) ?_
  rotate_left 1
  · (intro w hSw; (try dsimp only at hSw); go_simp; try with_reducible rfl)
  try simp (maxSteps := 10000000) only [List.getElem_toArray, List.getElem_cons_succ, List.getElem_cons_zero, Act.put, List.setIfInBounds_toArray, List.set_cons_zero, List.set_cons_succ]
  refine wpAnyH_take (i := 9) (oi := _) (v := ?_) rfl (by kernel_rfl) (by kernel_rfl) (by kernel_rfl) (fun _ _ _ h => h) (Or.inl ⟨by rfl, ?_⟩) (by assumption) ?_
  rotate_left 1
  · (intro w hSw; (try dsimp only at hSw); go_simp; try with_reducible rfl)
  try simp (maxSteps := 10000000) only [List.getElem_toArray, List.getElem_cons_succ, List.getElem_cons_zero, Act.put, List.setIfInBounds_toArray, List.set_cons_zero, List.set_cons_succ]
  refine wpAnyH_ready (rs := [10]) (by kernel_rfl) (by simp) ?_
  refine AllReadyH.cons rfl (fun K hK => ?_) AllReadyH.nil
  go_simp
  refine (bytesCompare_w cb cb' (h1.zs (fun k hk => hDr.block k hk)) (h1'.zs (fun k hk => hDr.block k hk))).mono ?_
  rintro e wd ⟨rfl, rfl⟩
  try go_simp
  refine hK.out _ _ ?_ (fun hHeld => ?_)
  · exact hS.out _ (by assumption)
  clear hK K
  try simp (maxSteps := 10000000) only [List.getElem_toArray, List.getElem_cons_succ, List.getElem_cons_zero, Act.put, List.setIfInBounds_toArray, List.set_cons_zero, List.set_cons_succ]
  refine wpAnyH_take (i := 11) (oi := _) (v := ?_) rfl (by kernel_rfl) (by kernel_rfl) (by kernel_rfl) (fun _ _ _ h => h) (Or.inl ⟨by rfl, ?_⟩) (by assumption) ?_
  rotate_left 1
  · (intro w hSw; (try dsimp only at hSw); go_simp; try with_reducible rfl)
  try simp (maxSteps := 10000000) only [List.getElem_toArray, List.getElem_cons_succ, List.getElem_cons_zero, Act.put, List.setIfInBounds_toArray, List.set_cons_zero, List.set_cons_succ]
  refine wpAnyH_done (by kernel_rfl) ?_ _
  go_wp2
  go_ret
  exact ⟨rfl, hDr⟩
set_option maxHeartbeats 1000000 in
theorem nils_w (g : Nat) (w : World) : Calls Tryd.prog 43 #[.pointer (some ⟨g, 0, none⟩)] w fun e w' => e = .returned (.int .i64 0) ∧ w' = w := by
  go_enter Tryd.func43, Tryd.ntmps43
  go_wp2
  go_ret
  exact ⟨rfl, rfl⟩
end Go.Proofs.YtgaecjocolihjaaDoor
