/- Texts of mine, one behind the other: TermRMay3, TermRMay4, TermRMay5, TermRMay6, TermRMay7, TermMakers, TermItems, TextM. -/
import Derived.Test.YtlojfmlaookpmaaGreatDoorSqH
import Derived.Test.YtlojfmlaookpmaaGreatDoorSqB
import Derived.Test.YtlojfmlaookpmaaGreatDoorSqF
import Derived.Test.YtlojfmlaookpmaaGreatDoorSqG
import Derived.Shelf.Strconv.AppendIntPublic10
set_option linter.unusedSimpArgs false
set_option linter.unusedVariables false
set_option maxRecDepth 2000
open List renaming getElem_toArray → zga, getElem_cons_succ → zgs, getElem_cons_zero → zgz, setIfInBounds_toArray → zsa, set_cons_succ → zss, set_cons_zero → zsz
namespace Go.Proofs.YtlojfmlaookpmaaGreatDoor
open Go.ChangeShapes Go.WideShapes Go.ChangeAt Go.RowKit Go.Shelf
set_option maxHeartbeats 2000000 in
set_option maxRecDepth 8000 in
theorem pass5 (od : Option Addr) (cd : Nat) (ol : Option Addr) (cl : Nat) (ob : Option Addr) (cb : Nat) (w : World) (nm : ByteArray) (hn : nm.toList = []) : MayC 5 false od 0 cd nm 0 ol 0 cl ob 0 cb w true := by
 go_enter Tryz.func39, Tryz.ntmps39
 simp only [List.append_eq, List.cons_append, List.nil_append]
 go_wp2
 go_ret
 exact ⟨rfl, (Below.refl _ w).alloc (Nat.le_refl _) _⟩
set_option maxHeartbeats 2000000 in
set_option maxRecDepth 8000 in
theorem passx (od : Option Addr) (cd : Nat) (ol : Option Addr) (cl : Nat) (ob : Option Addr) (cb : Nat) (w : World) (k : Int) (nm : ByteArray) (hn : nm.toList = []) (h0 : (k != 0) = true) (h1 : (k != 1) = true) (h2 : (k != 2) = true) (h3 : (k != 3) = true) (h4 : (k != 4) = true) (h6 : (k != 6) = true) (h7 : (k != 7) = true) (e0 : (k == 0) = false) (e1 : (k == 1) = false) (e2 : (k == 2) = false) (e3 : (k == 3) = false) (e4 : (k == 4) = false) (e5 : (k == 5) = false) (e6 : (k == 6) = false) (e7 : (k == 7) = false) : MayC k false od 0 cd nm 0 ol 0 cl ob 0 cb w false := by
 go_enter Tryz.func39, Tryz.ntmps39
 simp only [List.append_eq, List.cons_append, List.nil_append]
 go_wp2
 go_ret
 exact ⟨rfl, (Below.refl _ w).alloc (Nat.le_refl _) _⟩
set_option maxHeartbeats 2000000 in
set_option maxRecDepth 8000 in
theorem pass7 (od : Option Addr) (cd : Nat) (ol : Option Addr) (cl : Nat) (ob : Option Addr) (cb : Nat) (w : World) (nm : ByteArray) (lb : Nat) (hn : nm.toList = []) : MayC 7 false od 0 cd nm 0 ol 0 cl ob lb cb w (decide ((lb : Int) ≤ 4096)) := by
 obtain ⟨R, hR⟩ : ∃ R, decide ((lb : Int) ≤ 4096) = R := ⟨_, rfl⟩
 unfold MayC
 rw [hR]
 have hHR := hid hR
 clear hR
 go_enter Tryz.func39, Tryz.ntmps39
 simp only [List.append_eq, List.cons_append, List.nil_append]
 go_wp2
 all_goals (
   go_ret
   refine ⟨?_, (Below.refl _ w).alloc (Nat.le_refl _) _⟩
   rw [← hHR.out]
   first | rfl | (simp [*]; done))
set_option maxHeartbeats 2000000 in
set_option maxRecDepth 8000 in
theorem pass2 (od : Option Addr) (cd : Nat) (ol : Option Addr) (cl : Nat) (ob : Option Addr) (cb : Nat) (w : World) (nm : ByteArray) (n : Int) (hn : nm.toList = []) : MayC 2 false od 0 cd nm n ol 0 cl ob 0 cb w (decide (0 ≤ n) && decide (n ≤ 1073741824)) := by
 obtain ⟨R, hR⟩ : ∃ R, (decide (0 ≤ n) && decide (n ≤ 1073741824)) = R := ⟨_, rfl⟩
 unfold MayC
 rw [hR]
 have hHR := hid hR
 clear hR
 go_enter Tryz.func39, Tryz.ntmps39
 simp only [List.append_eq, List.cons_append, List.nil_append]
 go_wp2
 all_goals (
   go_ret
   refine ⟨?_, (Below.refl _ w).alloc (Nat.le_refl _) _⟩
   rw [← hHR.out]
   first | rfl | (simp [*]; done) | (simp [*]; omega) | (simp; omega))
set_option maxHeartbeats 2000000 in
set_option maxRecDepth 8000 in
theorem pass3 (od : Option Addr) (cd : Nat) (ol : Option Addr) (cl : Nat) (ob : Option Addr) (cb : Nat) (w : World) (nm : ByteArray) (n : Int) (hn : nm.toList = []) : MayC 3 false od 0 cd nm n ol 0 cl ob 0 cb w (decide (0 ≤ n) && decide (n ≤ 1073741824)) := by
 obtain ⟨R, hR⟩ : ∃ R, (decide (0 ≤ n) && decide (n ≤ 1073741824)) = R := ⟨_, rfl⟩
 unfold MayC
 rw [hR]
 have hHR := hid hR
 clear hR
 go_enter Tryz.func39, Tryz.ntmps39
 simp only [List.append_eq, List.cons_append, List.nil_append]
 go_wp2
 all_goals (
   go_ret
   refine ⟨?_, (Below.refl _ w).alloc (Nat.le_refl _) _⟩
   rw [← hHR.out]
   first | rfl | (simp [*]; done) | (simp [*]; omega) | (simp; omega))
set_option maxHeartbeats 2000000 in
set_option maxRecDepth 8000 in
theorem pass1 (od : Option Addr) (cd : Nat) (ol : Option Addr) (cl : Nat) (ob : Option Addr) (cb : Nat) (w : World) (nm : ByteArray) (hs : nm.size ≤ 1000000) (hTa : Tabs w) : MayC 1 false od 0 cd nm 0 ol 0 cl ob 0 cb w (decide (0 ≤ countZ nm.data.toList) && decide (countZ nm.data.toList ≤ 255)) := by
 obtain ⟨R, hR⟩ : ∃ R, (decide (0 ≤ countZ nm.data.toList) && decide (countZ nm.data.toList ≤ 255)) = R := ⟨_, rfl⟩
 unfold MayC
 rw [hR]
 have hHR := hid hR
 clear hR
 obtain ⟨kX, hBX, hz0⟩ := bx1 w (.int .i64 1) (.bool false) (.slice od 0 cd) (.string nm) (.int .i64 0) (.slice ol 0 cl) (.slice ob 0 cb) 27
 have hTa1 := hTa.below hBX
 go_enter Tryz.func39, Tryz.ntmps39
 simp only [List.append_eq, List.cons_append, List.nil_append]
 go_wp2_with fail
 generalize (w.alloc (.cells #[.int .i64 1, .bool false, .slice od 0 cd, .string nm, .int .i64 0, .slice ol 0 cl, .slice ob 0 cb] 27)) = W0 at *
 refine (rvalid_w nm _ (by omega) hTa1).mono ?_
 rintro e w1 ⟨rfl, b1⟩
 have hB1 := below_and hBX (by omega) b1
 obtain ⟨x0, x1, x2, x3, x4, x5, x6⟩ := (kX.below b1).res
 by_cases hv : Lib.validD nm.data.toList = true
 · rw [hv]
   go_wp2_with fail
   refine (rcount_w nm _ (by omega) (hTa1.below b1)).mono ?_
   rintro e w2 ⟨rfl, b2⟩
   have hB2 := below_and hB1 (by omega) b2
   have hc : countZ nm.data.toList = ((sg nm.data.toList).length : Int) := by unfold countZ; rw [if_pos hv]
   obtain ⟨c, hcc⟩ : ∃ c, countZ nm.data.toList = c := ⟨_, rfl⟩
   have h0 : 0 ≤ c := by rw [← hcc, hc]; omega
   rw [hcc]
   have hHc := hid hcc
   clear hc hcc
   go_wp2
   all_goals (
     go_ret
     refine ⟨?_, hB2⟩
     have hq := hHR.out
     rw [hHc.out, decide_eq_true h0, Bool.true_and] at hq
     rw [← hq]
     clear hq
     first | rfl | (simp [*]; done))
 · have hv' : Lib.validD nm.data.toList = false := by simpa using hv
   rw [hv']
   have hc : countZ nm.data.toList = -1 := by unfold countZ; rw [if_neg hv]
   have hRf : R = false := by rw [← hHR.out, hc]; rfl
   subst hRf
   clear hHR hv hv' hc
   go_wp2
   go_ret
   exact ⟨rfl, hB1⟩
set_option maxHeartbeats 4000000 in
set_option maxRecDepth 8000 in
theorem pass0 (od : Option Addr) (cd : Nat) (ol : Option Addr) (cl : Nat) (ob : Option Addr) (cb : Nat) (w : World) (neg : Bool) (d : List Nat) (nm : ByteArray) (hn : nm.toList = []) (hd' : d.length ≤ 1000000) (hm' : Lm 4294967296 d) (hcd' : d.length ≤ cd) (hL : Ls (Low w) od (lim d) w) :
   MayC 0 neg od d.length cd nm 0 ol 0 cl ob 0 cb w (decide ((d.length : Int) ≤ 64) && normB neg d) := by
 obtain ⟨R, hR⟩ : ∃ R, (decide ((d.length : Int) ≤ 64) && normB neg d) = R := ⟨_, rfl⟩
 unfold MayC
 rw [hR]
 have hHR := hid hR
 clear hR
 obtain ⟨kX, hBX, hz0⟩ := bx1 w (.int .i64 0) (.bool neg) (.slice od d.length cd) (.string nm) (.int .i64 0) (.slice ol 0 cl) (.slice ob 0 cb) 27
 obtain ⟨Z, hZ'⟩ : ∃ Z, sv neg (gval 4294967296 d) = Z := ⟨_, rfl⟩
 obtain ⟨nB, hnB'⟩ : ∃ nB, normB neg d = nB := ⟨_, rfl⟩
 have hnB := hid hnB'
 have hZ := hid hZ'
 have hm := hid hm'
 have hd := hid hd'
 have hcd := hid hcd'
 go_enter Tryz.func39, Tryz.ntmps39
 simp only [List.append_eq, List.cons_append, List.nil_append]
 go_upto_region 5 with fail
 generalize (w.alloc (.cells #[.int .i64 0, .bool neg, .slice od d.length cd, .string nm, .int .i64 0, .slice ol 0 cl, .slice ob 0 cb] 27)) = W0 at *
 have hLx := hid (fun w' (hb : Below W0.heap.size W0 w') => ((hL.zs (fun k hk => hBX.block k hk)).mono (fun k hk _ => hk) : Ls (Low W0) od (lim d) W0).zs (fun k hk => hb.block k hk) |>.lies)
 have hNX := hid (fun w' (hb : Below W0.heap.size W0 w') => (show IsN (.agg #[.bool neg, .slice od d.length cd]) Z 1000000 w' from ⟨neg, od, d, cd, rfl, hLx.out w' hb, hcd', hm', hZ', hd'⟩))
 have hS : Hid (∀ w', Below W0.heap.size W0 w' → (w'.cell? ⟨w.heap.size, 1, none⟩ = some (.bool neg) ∧ w'.cell? ⟨w.heap.size, 2, none⟩ = some (.slice od d.length cd))) := hid (fun w' hb => by
   obtain ⟨t0, t1, t2, t3, t4, t5, t6⟩ := (kX.below hb).res
   exact ⟨t1, t2⟩)
 have hDr : Below W0.heap.size W0 W0.drew := (Below.refl _ W0).drew
 have hzz : w.heap.size ≤ w.heap.size := Nat.le_refl _
 have hBh := hid hBX
 clear hZ' hnB' hm' hd' hcd' hL hBX kX hz0
 refine wp_region_held_drew (S := fun w' => w'.cell? ⟨w.heap.size, 1, none⟩ = some (.bool neg) ∧ w'.cell? ⟨w.heap.size, 2, none⟩ = some (.slice od d.length cd)) (by kernel_rfl) (by first | exact hS.out _ (Below.refl _ _) | exact hS.out _ hDr) (fun hHeld => ?_)
 by_cases h64 : (d.length : Int) ≤ 64
 · have hRn : R = nB := by rw [← hHR.out, decide_eq_true h64, Bool.true_and, hnB.out]
   subst hRn
   clear hHR
   refine wpAnyH_take (i := 0) (oi := _) (v := ?_) rfl (by kernel_rfl) (by kernel_rfl) (by kernel_rfl) (fun _ _ _ h => h) (Or.inl ⟨by rfl, ?_⟩) (by assumption) ?_
   rotate_left 1
   · (intro w hSw; (try dsimp only at hSw); go_simp; try with_reducible rfl)
   try simp (maxSteps := 10000000) only [zga, zgs, zgz, Act.put, zsa, zsz, zss]
   refine wpAnyH_take (i := 1) (oi := _) (v := ?_) rfl (by kernel_rfl) (by kernel_rfl) (by kernel_rfl) (fun _ _ _ h => h) (Or.inl ⟨by rfl, ?_⟩) (by assumption) ?_
   rotate_left 1
   · (intro w hSw; (try dsimp only at hSw); go_simp; try with_reducible rfl)
   try simp (maxSteps := 10000000) only [zga, zgs, zgz, Act.put, zsa, zsz, zss]
   refine wpAnyH_take (i := 2) (oi := _) (v := ?_) rfl (by kernel_rfl) (by kernel_rfl) (by kernel_rfl) (fun _ _ _ h => h) (Or.inl ⟨by rfl, ?_⟩) (by assumption) ?_
   rotate_left 1
   · (intro w hSw; (try dsimp only at hSw); go_simp; try with_reducible rfl)
   try simp (maxSteps := 10000000) only [zga, zgs, zgz, Act.put, zsa, zsz, zss]
   refine wpAnyH_take (i := 3) (oi := _) (v := ?_) rfl (by kernel_rfl) (by kernel_rfl) (by kernel_rfl) (fun _ _ _ h => h) (Or.inl ⟨by rfl, ?_⟩) (by assumption) ?_
   rotate_left 1
   · (intro w hSw; (try dsimp only at hSw); go_simp; try with_reducible rfl)
   try simp (maxSteps := 10000000) only [zga, zgs, zgz, Act.put, zsa, zsz, zss]
   refine wpAnyH_take (i := 4) (oi := _) (v := ?_) rfl (by kernel_rfl) (by kernel_rfl) (by kernel_rfl) (fun _ _ _ h => h) (Or.inl ⟨by rfl, ?_⟩) (by assumption) ?_
   rotate_left 1
   · (intro w hSw; (try dsimp only at hSw); go_simp; try with_reducible rfl)
   try simp (maxSteps := 10000000) only [zga, zgs, zgz, Act.put, zsa, zsz, zss]
   refine wpAnyH_take (i := 5) (oi := _) (v := ?_) rfl (by kernel_rfl) (by kernel_rfl) (by kernel_rfl) (fun _ _ _ h => h) (Or.inl ⟨by rfl, ?_⟩) (by assumption) ?_
   rotate_left 1
   · (intro w hSw; (try dsimp only at hSw); go_simp; try with_reducible rfl)
   try simp (maxSteps := 10000000) only [zga, zgs, zgz, Act.put, zsa, zsz, zss]
   refine wpAnyH_take (i := 6) (oi := _) (v := ?_) rfl (by kernel_rfl) (by kernel_rfl) (by kernel_rfl) (fun _ _ _ h => h) (Or.inl ⟨by rfl, ?_⟩) (by assumption) ?_
   rotate_left 1
   · (intro w hSw; (try dsimp only at hSw); go_simp; try with_reducible rfl)
   try simp (maxSteps := 10000000) only [zga, zgs, zgz, Act.put, zsa, zsz, zss]
   refine wpAnyH_take (i := 7) (oi := _) (v := ?_) rfl (by kernel_rfl) (by kernel_rfl) (by kernel_rfl) (fun _ _ _ h => h) (Or.inl ⟨by rfl, ?_⟩) (by assumption) ?_
   rotate_left 1
   · (intro w hSw; (try dsimp only at hSw); go_simp; try with_reducible rfl)
   try simp (maxSteps := 10000000) only [zga, zgs, zgz, Act.put, zsa, zsz, zss]
   refine wpAnyH_take (i := 8) (oi := _) (v := ?_) rfl (by kernel_rfl) (by kernel_rfl) (by kernel_rfl) (fun _ _ _ h => h) (Or.inl ⟨by rfl, ?_⟩) (by assumption) ?_
   rotate_left 1
   · (intro w hSw; (try dsimp only at hSw); go_simp; try with_reducible rfl)
   try simp (maxSteps := 10000000) only [zga, zgs, zgz, Act.put, zsa, zsz, zss]
   refine wpAnyH_take (i := 9) (oi := _) (v := ?_) rfl (by kernel_rfl) (by kernel_rfl) (by kernel_rfl) (fun _ _ _ h => h) (Or.inl ⟨by rfl, ?_⟩) (by assumption) ?_
   rotate_left 1
   · (intro w hSw; (try dsimp only at hSw); go_simp; try with_reducible rfl)
   try simp (maxSteps := 10000000) only [zga, zgs, zgz, Act.put, zsa, zsz, zss]
   refine wpAnyH_take (i := 10) (oi := _) (v := ?_) rfl (by kernel_rfl) (by kernel_rfl) (by kernel_rfl) (fun _ _ _ h => h) (Or.inl ⟨by rfl, ?_⟩) (by assumption) ?_
   rotate_left 1
   · (intro w hSw; (try dsimp only at hSw); go_simp; try with_reducible rfl)
   try simp (maxSteps := 10000000) only [zga, zgs, zgz, Act.put, zsa, zsz, zss]
   refine wpAnyH_take (i := 11) (oi := _) (v := ?_) rfl (by kernel_rfl) (by kernel_rfl) (by kernel_rfl) (fun _ _ _ h => h) (Or.inl ⟨by rfl, ?_⟩) (by assumption) ?_
   rotate_left 1
   · (intro w hSw; (try dsimp only at hSw); go_simp; try with_reducible rfl)
   try simp (maxSteps := 10000000) only [zga, zgs, zgz, Act.put, zsa, zsz, zss]
   refine wpAnyH_take (i := 12) (oi := _) (v := ?_) rfl (by kernel_rfl) (by kernel_rfl) (by kernel_rfl) (fun _ _ _ h => h) (Or.inl ⟨by rfl, ?_⟩) (by assumption) ?_
   rotate_left 1
   · (intro w hSw; (try dsimp only at hSw); go_simp; try with_reducible rfl)
   try simp (maxSteps := 10000000) only [zga, zgs, zgz, Act.put, zsa, zsz, zss]
   refine wpAnyH_take (i := 13) (oi := _) (v := ?_) rfl (by kernel_rfl) (by kernel_rfl) (by kernel_rfl) (fun _ _ _ h => h) (Or.inl ⟨by rfl, ?_⟩) (by assumption) ?_
   rotate_left 1
   · (intro w hSw; (try dsimp only at hSw); go_simp; try with_reducible rfl)
   try simp (maxSteps := 10000000) only [zga, zgs, zgz, Act.put, zsa, zsz, zss]
   refine wpAnyH_take (i := 14) (oi := _) (v := ?_) rfl (by kernel_rfl) (by kernel_rfl) (by kernel_rfl) (fun _ _ _ h => h) (Or.inl ⟨by rfl, ?_⟩) (by assumption) ?_
   rotate_left 1
   · (intro w hSw; (try dsimp only at hSw); go_simp; try with_reducible rfl)
   try simp (maxSteps := 10000000) only [zga, zgs, zgz, Act.put, zsa, zsz, zss]
   refine wpAnyH_ready (rs := [15]) (by kernel_rfl) (by simp) ?_
   refine AllReadyH.cons rfl (fun K hK => ?_) AllReadyH.nil
   go_simp
   refine (rnorm_c _ Z 1000000 _ (by omega) (hNX.out _ hDr)).mono ?_
   rintro e wa ⟨ba, oa2, na2, ca2, rfl, hCa, bra⟩
   have c1 : Below W0.heap.size W0 wa := below_and hDr (Nat.le_refl _) bra
   try go_simp
   refine hK.out _ _ ?_ (fun hHeld => ?_)
   · exact hS.out _ (by assumption)
   clear hK K
   try simp (maxSteps := 10000000) only [zga, zgs, zgz, Act.put, zsa, zsz, zss]
   refine wpAnyH_ready (rs := [16]) (by kernel_rfl) (by simp) ?_
   refine AllReadyH.cons rfl (fun K hK => ?_) AllReadyH.nil
   go_simp
   refine (sameNorm_w neg d od oa2 cd ca2 ba na2 1000000 _ (by omega) hm.out ((hLx.out _ c1)) hd.out hcd.out (by rw [hZ.out]; exact hCa)).mono ?_
   rintro e wb ⟨rfl, brb⟩
   rw [hnB.out]
   have c2 : Below W0.heap.size W0 wb := below_and c1 (Nat.le_refl _) brb
   try go_simp
   refine hK.out _ _ ?_ (fun hHeld => ?_)
   · exact hS.out _ (by assumption)
   clear hK K
   try simp (maxSteps := 10000000) only [zga, zgs, zgz, Act.put, zsa, zsz, zss]
   refine wpAnyH_take (i := 17) (oi := _) (v := ?_) rfl (by kernel_rfl) (by kernel_rfl) (by kernel_rfl) (fun _ _ _ h => h) (Or.inl ⟨by rfl, ?_⟩) (by assumption) ?_
   rotate_left 1
   · (intro w hSw; (try dsimp only at hSw); go_simp; try with_reducible rfl)
   try simp (maxSteps := 10000000) only [zga, zgs, zgz, Act.put, zsa, zsz, zss]
   refine wpAnyH_take (i := 18) (oi := _) (v := ?_) rfl (by kernel_rfl) (by kernel_rfl) (by kernel_rfl) (fun _ _ _ h => h) (Or.inl ⟨by rfl, ?_⟩) (by assumption) ?_
   rotate_left 1
   · (intro w hSw; (try dsimp only at hSw); go_simp; try with_reducible rfl)
   try simp (maxSteps := 10000000) only [zga, zgs, zgz, Act.put, zsa, zsz, zss]
   refine wpAnyH_done (by kernel_rfl) ?_ _
   go_wp2
   go_ret
   exact ⟨rfl, below_and hBh.out (Nat.le_refl _) c2⟩
 · have hRn : R = false := by rw [← hHR.out, decide_eq_false h64, Bool.false_and]
   subst hRn
   clear hHR
   refine wpAnyH_take (i := 0) (oi := _) (v := ?_) rfl (by kernel_rfl) (by kernel_rfl) (by kernel_rfl) (fun _ _ _ h => h) (Or.inl ⟨by rfl, ?_⟩) (by assumption) ?_
   rotate_left 1
   · (intro w hSw; (try dsimp only at hSw); go_simp; try with_reducible rfl)
   try simp (maxSteps := 10000000) only [zga, zgs, zgz, Act.put, zsa, zsz, zss]
   refine wpAnyH_take (i := 1) (oi := _) (v := ?_) rfl (by kernel_rfl) (by kernel_rfl) (by kernel_rfl) (fun _ _ _ h => h) (Or.inl ⟨by rfl, ?_⟩) (by assumption) ?_
   rotate_left 1
   · (intro w hSw; (try dsimp only at hSw); go_simp; try with_reducible rfl)
   try simp (maxSteps := 10000000) only [zga, zgs, zgz, Act.put, zsa, zsz, zss]
   refine wpAnyH_take (i := 2) (oi := _) (v := ?_) rfl (by kernel_rfl) (by kernel_rfl) (by kernel_rfl) (fun _ _ _ h => h) (Or.inl ⟨by rfl, ?_⟩) (by assumption) ?_
   rotate_left 1
   · (intro w hSw; (try dsimp only at hSw); go_simp; try with_reducible rfl)
   try simp (maxSteps := 10000000) only [zga, zgs, zgz, Act.put, zsa, zsz, zss]
   refine wpAnyH_take (i := 3) (oi := _) (v := ?_) rfl (by kernel_rfl) (by kernel_rfl) (by kernel_rfl) (fun _ _ _ h => h) (Or.inl ⟨by rfl, ?_⟩) (by assumption) ?_
   rotate_left 1
   · (intro w hSw; (try dsimp only at hSw); go_simp; try with_reducible rfl)
   try simp (maxSteps := 10000000) only [zga, zgs, zgz, Act.put, zsa, zsz, zss]
   refine wpAnyH_take (i := 4) (oi := _) (v := ?_) rfl (by kernel_rfl) (by kernel_rfl) (by kernel_rfl) (fun _ _ _ h => h) (Or.inl ⟨by rfl, ?_⟩) (by assumption) ?_
   rotate_left 1
   · (intro w hSw; (try dsimp only at hSw); go_simp; try with_reducible rfl)
   try simp (maxSteps := 10000000) only [zga, zgs, zgz, Act.put, zsa, zsz, zss]
   refine wpAnyH_take (i := 5) (oi := _) (v := undef) rfl (by kernel_rfl) (by kernel_rfl) (by kernel_rfl) (fun _ _ _ h => h) (Or.inr ⟨by rfl, rfl⟩) (by assumption) ?_
   try simp (maxSteps := 10000000) only [zga, zgs, zgz, Act.put, zsa, zsz, zss]
   refine wpAnyH_take (i := 6) (oi := _) (v := undef) rfl (by kernel_rfl) (by kernel_rfl) (by kernel_rfl) (fun _ _ _ h => h) (Or.inr ⟨by rfl, rfl⟩) (by assumption) ?_
   try simp (maxSteps := 10000000) only [zga, zgs, zgz, Act.put, zsa, zsz, zss]
   refine wpAnyH_take (i := 7) (oi := _) (v := undef) rfl (by kernel_rfl) (by kernel_rfl) (by kernel_rfl) (fun _ _ _ h => h) (Or.inr ⟨by rfl, rfl⟩) (by assumption) ?_
   try simp (maxSteps := 10000000) only [zga, zgs, zgz, Act.put, zsa, zsz, zss]
   refine wpAnyH_take (i := 8) (oi := _) (v := undef) rfl (by kernel_rfl) (by kernel_rfl) (by kernel_rfl) (fun _ _ _ h => h) (Or.inr ⟨by rfl, rfl⟩) (by assumption) ?_
   try simp (maxSteps := 10000000) only [zga, zgs, zgz, Act.put, zsa, zsz, zss]
   refine wpAnyH_take (i := 9) (oi := _) (v := undef) rfl (by kernel_rfl) (by kernel_rfl) (by kernel_rfl) (fun _ _ _ h => h) (Or.inr ⟨by rfl, rfl⟩) (by assumption) ?_
   try simp (maxSteps := 10000000) only [zga, zgs, zgz, Act.put, zsa, zsz, zss]
   refine wpAnyH_take (i := 10) (oi := _) (v := undef) rfl (by kernel_rfl) (by kernel_rfl) (by kernel_rfl) (fun _ _ _ h => h) (Or.inr ⟨by rfl, rfl⟩) (by assumption) ?_
   try simp (maxSteps := 10000000) only [zga, zgs, zgz, Act.put, zsa, zsz, zss]
   refine wpAnyH_take (i := 11) (oi := _) (v := undef) rfl (by kernel_rfl) (by kernel_rfl) (by kernel_rfl) (fun _ _ _ h => h) (Or.inr ⟨by rfl, rfl⟩) (by assumption) ?_
   try simp (maxSteps := 10000000) only [zga, zgs, zgz, Act.put, zsa, zsz, zss]
   refine wpAnyH_take (i := 12) (oi := _) (v := undef) rfl (by kernel_rfl) (by kernel_rfl) (by kernel_rfl) (fun _ _ _ h => h) (Or.inr ⟨by rfl, rfl⟩) (by assumption) ?_
   try simp (maxSteps := 10000000) only [zga, zgs, zgz, Act.put, zsa, zsz, zss]
   refine wpAnyH_take (i := 13) (oi := _) (v := undef) rfl (by kernel_rfl) (by kernel_rfl) (by kernel_rfl) (fun _ _ _ h => h) (Or.inr ⟨by rfl, rfl⟩) (by assumption) ?_
   try simp (maxSteps := 10000000) only [zga, zgs, zgz, Act.put, zsa, zsz, zss]
   refine wpAnyH_take (i := 14) (oi := _) (v := undef) rfl (by kernel_rfl) (by kernel_rfl) (by kernel_rfl) (fun _ _ _ h => h) (Or.inr ⟨by rfl, rfl⟩) (by assumption) ?_
   try simp (maxSteps := 10000000) only [zga, zgs, zgz, Act.put, zsa, zsz, zss]
   refine wpAnyH_take (i := 15) (oi := _) (v := undef) rfl (by kernel_rfl) (by kernel_rfl) (by kernel_rfl) (fun _ _ _ h => h) (Or.inr ⟨by rfl, rfl⟩) (by assumption) ?_
   try simp (maxSteps := 10000000) only [zga, zgs, zgz, Act.put, zsa, zsz, zss]
   refine wpAnyH_take (i := 16) (oi := _) (v := undef) rfl (by kernel_rfl) (by kernel_rfl) (by kernel_rfl) (fun _ _ _ h => h) (Or.inr ⟨by rfl, rfl⟩) (by assumption) ?_
   try simp (maxSteps := 10000000) only [zga, zgs, zgz, Act.put, zsa, zsz, zss]
   refine wpAnyH_take (i := 17) (oi := _) (v := ?_) rfl (by kernel_rfl) (by kernel_rfl) (by kernel_rfl) (fun _ _ _ h => h) (Or.inl ⟨by rfl, ?_⟩) (by assumption) ?_
   rotate_left 1
   · (intro w hSw; (try dsimp only at hSw); go_simp; try with_reducible rfl)
   try simp (maxSteps := 10000000) only [zga, zgs, zgz, Act.put, zsa, zsz, zss]
   refine wpAnyH_take (i := 18) (oi := _) (v := ?_) rfl (by kernel_rfl) (by kernel_rfl) (by kernel_rfl) (fun _ _ _ h => h) (Or.inl ⟨by rfl, ?_⟩) (by assumption) ?_
   rotate_left 1
   · (intro w hSw; (try dsimp only at hSw); go_simp; try with_reducible rfl)
   try simp (maxSteps := 10000000) only [zga, zgs, zgz, Act.put, zsa, zsz, zss]
   refine wpAnyH_done (by kernel_rfl) ?_ _
   go_wp2
   go_ret
   exact ⟨rfl, below_and hBh.out (Nat.le_refl _) hDr⟩
theorem nil_noS : noS.toList = [] := by decide +kernel
theorem all_lean {T : Tm} (h : leanB T = false) : (parts T).all fairB = false := by
 rw [parts_eq]
 simp [fairB, h]
theorem all_flat {k : Int} {neg : Bool} {d : List Nat} {nm : ByteArray} {n : Int} {l : List Tm} {b : List Nat} (hk : ¬ (k = 4 ∨ k = 6)) (h : leanB (.mk k neg d nm n l b) = true) : (parts (.mk k neg d nm n l b)).all fairB = withinB (.mk k neg d nm n l b) := by
 have hp : parts (.mk k neg d nm n l b) = [.mk k neg d nm n l b] := by simp [parts, hk]
 rw [hp]
 simp [fairB, h]
theorem len0 {α : Type} {l : List α} (h : ¬ (l.length : Int) = 0) : (0 : Int) < (l.length : Int) := by omega
theorem ne_true {k : Int} {c : Int} (h : ¬ k = c) : (k != c) = true := by simpa using h
theorem eq_false' {k : Int} {c : Int} (h : ¬ k = c) : (k == c) = false := by simpa using h
abbrev May0 (T : Tm) (v : Value) (w : World) : Prop := Calls Tryz.prog 39 #[v] w fun e w' => e = .returned (.bool ((parts T).all fairB)) ∧ Below w.heap.size w w'
theorem lnil {α : Type} {l : List α} (h : (l.length : Int) = 0) : l = [] := List.eq_nil_of_length_eq_zero (by omega)
theorem may_k0 {od ol ob : Option Addr} {cd cl cb : Nat} {w : World} {neg : Bool} {d : List Nat} {nm : ByteArray} {n : Int} {l : List Tm} {b : List Nat} (hok : (Tm.mk 0 neg d nm n l b).ok1) (hcd : d.length ≤ cd) (hL : Ls (Low w) od (lim d) w) : May0 (.mk 0 neg d nm n l b) (tmV 0 neg (.slice od d.length cd) nm n (.slice ol l.length cl) (.slice ob b.length cb)) w := by
 obtain ⟨hd, hs, _, _, hm⟩ : d.length ≤ 1000000 ∧ nm.size ≤ 1000000 ∧ l.length ≤ 1000000 ∧ b.length ≤ 1000000 ∧ Lm 4294967296 d := hok
 by_cases c2 : nm.toList = []
 case neg => unfold May0; rw [all_lean (by simp [leanB, prT, eqF, nil_noS, *])]; exact bad2a od cd ol cl ob cb w neg _ nm n _ _ c2
 by_cases c3 : n = 0
 case neg => unfold May0; rw [all_lean (by simp [leanB, prT, eqF, nil_noS, *])]; exact bad3a od cd ol cl ob cb w neg _ nm n _ _ c2 (ne_true c3)
 by_cases c4 : (l.length : Int) = 0
 case neg => unfold May0; rw [all_lean (by have : l ≠ [] := (fun e => c4 (by rw [e]; rfl)); simp [leanB, prT, eqF, nil_noS, *])]; subst c3; exact bad4a od cd ol cl ob cb w neg _ nm _ _ c2 (len0 c4)
 by_cases c5 : (b.length : Int) = 0
 case neg => unfold May0; rw [all_lean (by have : b ≠ [] := (fun e => c5 (by rw [e]; rfl)); simp [leanB, prT, eqF, nil_noS, *])]; subst c3; rw [lnil c4]; exact bad5a od cd ol cl ob cb w neg _ nm _ c2 (len0 c5)
 subst c3
 have e4 := lnil c4
 have e5 := lnil c5
 subst e4 e5
 unfold May0
 rw [all_flat (by decide) (by simp [leanB, prT, eqF, nil_noS, *])]
 have := pass0 od cd ol cl ob cb w neg d nm c2 hd hm hcd hL
 simpa [withinB] using this
theorem may_k1 {od ol ob : Option Addr} {cd cl cb : Nat} {w : World} {neg : Bool} {d : List Nat} {nm : ByteArray} {n : Int} {l : List Tm} {b : List Nat} (hok : (Tm.mk 1 neg d nm n l b).ok1) (hTa : Tabs w) : May0 (.mk 1 neg d nm n l b) (tmV 1 neg (.slice od d.length cd) nm n (.slice ol l.length cl) (.slice ob b.length cb)) w := by
 obtain ⟨hd, hs, _, _, hm⟩ : d.length ≤ 1000000 ∧ nm.size ≤ 1000000 ∧ l.length ≤ 1000000 ∧ b.length ≤ 1000000 ∧ Lm 4294967296 d := hok
 by_cases c0 : neg = true
 · subst c0; unfold May0; rw [all_lean (by simp [leanB, prT, eqF])]; exact bad1a od cd ol cl ob cb w 1 _ nm n _ _ rfl
 have c0' : neg = false := by simpa using c0
 subst c0'
 by_cases c1 : (d.length : Int) = 0
 case neg => unfold May0; rw [all_lean (by have : d ≠ [] := (fun e => c1 (by rw [e]; rfl)); simp [leanB, prT, eqF, *])]; exact bad1b od cd ol cl ob cb w 1 _ nm n _ _ rfl (len0 c1)
 by_cases c3 : n = 0
 case neg => unfold May0; rw [all_lean (by simp [leanB, prT, eqF, *])]; rw [lnil c1]; exact bad3b od cd ol cl ob cb w nm n _ _ (ne_true c3)
 by_cases c4 : (l.length : Int) = 0
 case neg => unfold May0; rw [all_lean (by have : l ≠ [] := (fun e => c4 (by rw [e]; rfl)); simp [leanB, prT, eqF, *])]; subst c3; rw [lnil c1]; exact bad4b od cd ol cl ob cb w nm _ _ (len0 c4)
 by_cases c5 : (b.length : Int) = 0
 case neg => unfold May0; rw [all_lean (by have : b ≠ [] := (fun e => c5 (by rw [e]; rfl)); simp [leanB, prT, eqF, *])]; subst c3; rw [lnil c1, lnil c4]; exact bad5b od cd ol cl ob cb w nm _ (len0 c5)
 subst c3
 have e1 := lnil c1
 have e4 := lnil c4
 have e5 := lnil c5
 subst e1 e4 e5
 unfold May0
 rw [all_flat (by decide) (by simp [leanB, prT, eqF])]
 have := pass1 od cd ol cl ob cb w nm hs hTa
 simpa [withinB] using this
theorem may_k2 {od ol ob : Option Addr} {cd cl cb : Nat} {w : World} {neg : Bool} {d : List Nat} {nm : ByteArray} {n : Int} {l : List Tm} {b : List Nat} : May0 (.mk 2 neg d nm n l b) (tmV 2 neg (.slice od d.length cd) nm n (.slice ol l.length cl) (.slice ob b.length cb)) w := by
 by_cases c0 : neg = true
 · subst c0; unfold May0; rw [all_lean (by simp [leanB, prT, eqF])]; exact bad1a od cd ol cl ob cb w 2 _ nm n _ _ rfl
 have c0' : neg = false := by simpa using c0
 subst c0'
 by_cases c1 : (d.length : Int) = 0
 case neg => unfold May0; rw [all_lean (by have : d ≠ [] := (fun e => c1 (by rw [e]; rfl)); simp [leanB, prT, eqF, *])]; exact bad1b od cd ol cl ob cb w 2 _ nm n _ _ rfl (len0 c1)
 by_cases c2 : nm.toList = []
 case neg => unfold May0; rw [all_lean (by simp [leanB, prT, eqF, nil_noS, *])]; rw [lnil c1]; exact bad2b od cd ol cl ob cb w 2 nm n _ _ rfl rfl c2
 by_cases c4 : (l.length : Int) = 0
 case neg => unfold May0; rw [all_lean (by have : l ≠ [] := (fun e => c4 (by rw [e]; rfl)); simp [leanB, prT, eqF, nil_noS, *])]; rw [lnil c1]; exact bad4c od cd ol cl ob cb w nm n _ _ c2 (len0 c4)
 by_cases c5 : (b.length : Int) = 0
 case neg => unfold May0; rw [all_lean (by have : b ≠ [] := (fun e => c5 (by rw [e]; rfl)); simp [leanB, prT, eqF, nil_noS, *])]; rw [lnil c1, lnil c4]; exact bad5c od cd ol cl ob cb w nm n _ c2 (len0 c5)
 have e1 := lnil c1
 have e4 := lnil c4
 have e5 := lnil c5
 subst e1 e4 e5
 unfold May0
 rw [all_flat (by decide) (by simp [leanB, prT, eqF, nil_noS, *])]
 have := pass2 od cd ol cl ob cb w nm n c2
 simpa [withinB] using this
theorem may_k3 {od ol ob : Option Addr} {cd cl cb : Nat} {w : World} {neg : Bool} {d : List Nat} {nm : ByteArray} {n : Int} {l : List Tm} {b : List Nat} : May0 (.mk 3 neg d nm n l b) (tmV 3 neg (.slice od d.length cd) nm n (.slice ol l.length cl) (.slice ob b.length cb)) w := by
 by_cases c0 : neg = true
 · subst c0; unfold May0; rw [all_lean (by simp [leanB, prT, eqF])]; exact bad1a od cd ol cl ob cb w 3 _ nm n _ _ rfl
 have c0' : neg = false := by simpa using c0
 subst c0'
 by_cases c1 : (d.length : Int) = 0
 case neg => unfold May0; rw [all_lean (by have : d ≠ [] := (fun e => c1 (by rw [e]; rfl)); simp [leanB, prT, eqF, *])]; exact bad1b od cd ol cl ob cb w 3 _ nm n _ _ rfl (len0 c1)
 by_cases c2 : nm.toList = []
 case neg => unfold May0; rw [all_lean (by simp [leanB, prT, eqF, nil_noS, *])]; rw [lnil c1]; exact bad2b od cd ol cl ob cb w 3 nm n _ _ rfl rfl c2
 by_cases c4 : (l.length : Int) = 0
 case neg => unfold May0; rw [all_lean (by have : l ≠ [] := (fun e => c4 (by rw [e]; rfl)); simp [leanB, prT, eqF, nil_noS, *])]; rw [lnil c1]; exact bad4d od cd ol cl ob cb w nm n _ _ c2 (len0 c4)
 by_cases c5 : (b.length : Int) = 0
 case neg => unfold May0; rw [all_lean (by have : b ≠ [] := (fun e => c5 (by rw [e]; rfl)); simp [leanB, prT, eqF, nil_noS, *])]; rw [lnil c1, lnil c4]; exact bad5d od cd ol cl ob cb w nm n _ c2 (len0 c5)
 have e1 := lnil c1
 have e4 := lnil c4
 have e5 := lnil c5
 subst e1 e4 e5
 unfold May0
 rw [all_flat (by decide) (by simp [leanB, prT, eqF, nil_noS, *])]
 have := pass3 od cd ol cl ob cb w nm n c2
 simpa [withinB] using this
theorem may_k7 {od ol ob : Option Addr} {cd cl cb : Nat} {w : World} {neg : Bool} {d : List Nat} {nm : ByteArray} {n : Int} {l : List Tm} {b : List Nat} : May0 (.mk 7 neg d nm n l b) (tmV 7 neg (.slice od d.length cd) nm n (.slice ol l.length cl) (.slice ob b.length cb)) w := by
 by_cases c0 : neg = true
 · subst c0; unfold May0; rw [all_lean (by simp [leanB, prT, eqF])]; exact bad1a od cd ol cl ob cb w 7 _ nm n _ _ rfl
 have c0' : neg = false := by simpa using c0
 subst c0'
 by_cases c1 : (d.length : Int) = 0
 case neg => unfold May0; rw [all_lean (by have : d ≠ [] := (fun e => c1 (by rw [e]; rfl)); simp [leanB, prT, eqF, *])]; exact bad1b od cd ol cl ob cb w 7 _ nm n _ _ rfl (len0 c1)
 by_cases c2 : nm.toList = []
 case neg => unfold May0; rw [all_lean (by simp [leanB, prT, eqF, nil_noS, *])]; rw [lnil c1]; exact bad2b od cd ol cl ob cb w 7 nm n _ _ rfl rfl c2
 by_cases c3 : n = 0
 case neg => unfold May0; rw [all_lean (by simp [leanB, prT, eqF, nil_noS, *])]; rw [lnil c1]; exact bad3c od cd ol cl ob cb w 7 nm n _ _ rfl rfl rfl rfl c2 (ne_true c3)
 by_cases c4 : (l.length : Int) = 0
 case neg => unfold May0; rw [all_lean (by have : l ≠ [] := (fun e => c4 (by rw [e]; rfl)); simp [leanB, prT, eqF, nil_noS, *])]; subst c3; rw [lnil c1]; exact bad4e od cd ol cl ob cb w 7 nm _ _ rfl rfl rfl rfl rfl rfl c2 (len0 c4)
 subst c3
 have e1 := lnil c1
 have e4 := lnil c4
 subst e1 e4
 unfold May0
 rw [all_flat (by decide) (by simp [leanB, prT, eqF, nil_noS, *])]
 have := pass7 od cd ol cl ob cb w nm b.length c2
 simpa [withinB] using this
theorem may_kx {od ol ob : Option Addr} {cd cl cb : Nat} {w : World} {neg : Bool} {d : List Nat} {nm : ByteArray} {n : Int} {l : List Tm} {b : List Nat} {k : Int} (k0 : ¬ k = 0) (k1 : ¬ k = 1) (k2 : ¬ k = 2) (k3 : ¬ k = 3) (k4 : ¬ k = 4) (k6 : ¬ k = 6) (k7 : ¬ k = 7) : May0 (.mk k neg d nm n l b) (tmV k neg (.slice od d.length cd) nm n (.slice ol l.length cl) (.slice ob b.length cb)) w := by
 by_cases c0 : neg = true
 · subst c0; unfold May0; rw [all_lean (by simp [leanB, prT, eqF, *])]; exact bad1a od cd ol cl ob cb w k _ nm n _ _ (ne_true k0)
 have c0' : neg = false := by simpa using c0
 subst c0'
 by_cases c1 : (d.length : Int) = 0
 case neg => unfold May0; rw [all_lean (by have : d ≠ [] := (fun e => c1 (by rw [e]; rfl)); simp [leanB, prT, eqF, *])]; exact bad1b od cd ol cl ob cb w k _ nm n _ _ (ne_true k0) (len0 c1)
 by_cases c2 : nm.toList = []
 case neg => unfold May0; rw [all_lean (by simp [leanB, prT, eqF, nil_noS, *])]; rw [lnil c1]; exact bad2b od cd ol cl ob cb w k nm n _ _ (ne_true k0) (ne_true k1) c2
 by_cases c3 : n = 0
 case neg => unfold May0; rw [all_lean (by simp [leanB, prT, eqF, nil_noS, *])]; rw [lnil c1]; exact bad3c od cd ol cl ob cb w k nm n _ _ (ne_true k0) (ne_true k1) (ne_true k2) (ne_true k3) c2 (ne_true c3)
 by_cases c4 : (l.length : Int) = 0
 case neg => unfold May0; rw [all_lean (by have : l ≠ [] := (fun e => c4 (by rw [e]; rfl)); simp [leanB, prT, eqF, nil_noS, *])]; subst c3; rw [lnil c1]; exact bad4e od cd ol cl ob cb w k nm _ _ (ne_true k0) (ne_true k1) (ne_true k2) (ne_true k3) (ne_true k4) (ne_true k6) c2 (len0 c4)
 by_cases c5 : (b.length : Int) = 0
 case neg => unfold May0; rw [all_lean (by have : b ≠ [] := (fun e => c5 (by rw [e]; rfl)); simp [leanB, prT, eqF, nil_noS, *])]; subst c3; rw [lnil c1, lnil c4]; exact bad5g od cd ol cl ob cb w k nm _ (ne_true k0) (ne_true k1) (ne_true k2) (ne_true k3) (ne_true k4) (ne_true k6) (ne_true k7) c2 (len0 c5)
 subst c3
 have e1 := lnil c1
 have e4 := lnil c4
 have e5 := lnil c5
 subst e1 e4 e5
 unfold May0
 by_cases k5 : k = 5
 · subst k5
   rw [all_flat (by decide) (by simp [leanB, prT, eqF, nil_noS, *])]
   have := pass5 od cd ol cl ob cb w nm c2
   simpa [withinB] using this
 · rw [all_lean (by simp [leanB, prT, eqF, nil_noS, *])]
   exact passx od cd ol cl ob cb w k nm c2 (ne_true k0) (ne_true k1) (ne_true k2) (ne_true k3) (ne_true k4) (ne_true k6) (ne_true k7) (eq_false' k0) (eq_false' k1) (eq_false' k2) (eq_false' k3) (eq_false' k4) (eq_false' k5) (eq_false' k6) (eq_false' k7)
theorem all_partsL : ∀ l : List Tm, (partsL l).all fairB = l.all (fun t => (parts t).all fairB)
 | [] => by simp [partsL]
 | t :: l => by simp [partsL, all_partsL l]
set_option maxHeartbeats 4000000 in
set_option maxRecDepth 8000 in
theorem loop4 (od : Option Addr) (cd : Nat) (ol : Option Addr) (cl : Nat) (ob : Option Addr) (cb : Nat) (w : World) (nm : ByteArray) (l : List Tm) (hn : nm.toList = []) (h255 : (l.length : Int) ≤ 255) (htR : TR (Low w) w l ol) (hTa : Hid (Tabs w))
   (hIH : Hid (∀ (t : Tm) (v : Value) (w' : World), t ∈ l → TV (Low w') w' t v → Tabs w' → May0 t v w')) : MayC 4 false od 0 cd nm 0 ol l.length cl ob 0 cb w (l.all (fun t => (parts t).all fairB)) := by
 obtain ⟨kX, hBX, hz0⟩ := bx1 w (.int .i64 4) (.bool false) (.slice od 0 cd) (.string nm) (.int .i64 0) (.slice ol l.length cl) (.slice ob 0 cb) 27
 obtain ⟨R, hR⟩ : ∃ R, l.all (fun t => (parts t).all fairB) = R := ⟨_, rfl⟩
 unfold MayC
 rw [hR]
 have hHR := hid hR
 clear hR
 go_enter Tryz.func39, Tryz.ntmps39
 simp only [List.append_eq, List.cons_append, List.nil_append]
 go_wp2_with fail
 generalize (w.alloc (.cells #[.int .i64 4, .bool false, .slice od 0 cd, .string nm, .int .i64 0, .slice ol l.length cl, .slice ob 0 cb] 27)) = W0 at *
 go_loopg [3] l.length (fun t v3 wr => ∃ i : Nat, t + i = l.length ∧ v3 = .int .i64 (i : Int) ∧ Hid (∀ j x, j < i → l[j]? = some x → (parts x).all fairB = true) ∧ Bx w.heap.size (.int .i64 4) (.bool false) (.slice od 0 cd) (.string nm) (.int .i64 0) (.slice ol l.length cl) (.slice ob 0 cb) wr ∧ Below w.heap.size w wr)
 case atStart => exact ⟨0, by omega, rfl, hid (fun j x hj => by omega), kX, hBX⟩
 case round =>
   obtain ⟨i, hti, rfl, hH, kr, hBr⟩ := hrel
   clear kX hBX
   obtain ⟨x0, x1, x2, x3, x4, x5, x6⟩ := kr.res
   by_cases hil : i = l.length
   · subst hil
     have hRt : R = true := by
       rw [← hHR.out, List.all_eq_true]
       intro x hx
       obtain ⟨j, hj, he⟩ := List.getElem_of_mem hx
       exact hH.out j x hj (by rw [List.getElem?_eq_getElem hj, he])
     subst hRt
     clear hHR
     go_wp2
     go_ret
     exact ⟨rfl, hBr⟩
   · have hil' : i < l.length := by omega
     have hii : ((i : Nat) : Int) < ((l.length : Nat) : Int) := by omega
     obtain ⟨t, ht⟩ : ∃ t, l[i]? = some t := ⟨l[i], by simp [hil']⟩
     obtain ⟨a, k', neg', od', ld', cd', nm', n', ol', ll', cl', ob', lb', cb', rfl, hTv', y0, y1, y2, y3, y4, y5, y6⟩ := htR.get ht hBr
     have hHt := hid ht
     have hI := hIH.out t _ wr (List.mem_of_getElem? ht) hTv' (hTa.out.below hBr)
     have hHI := hid hI
     clear ht hI hTv'
     go_wp2_with fail
     refine hHI.out.mono ?_
     rintro e w2 ⟨rfl, b2⟩
     have hB2 := below_and hBr (Nat.le_refl _) b2
     have k2 := kr.below b2
     obtain ⟨bb, hbb⟩ : ∃ bb, (parts t).all fairB = bb := ⟨_, rfl⟩
     rw [hbb]
     have hHb := hid hbb
     clear hbb hHI x0 x1 x2 x3 x4 x5 x6 y0 y1 y2 y3 y4 y5 y6 b2 hBr kr
     cases bb with
     | false =>
       have hRf : R = false := by
         rw [← hHR.out]
         cases hq : l.all (fun t => (parts t).all fairB) with
         | false => rfl
         | true =>
           rw [List.all_eq_true] at hq
           have := hq t (List.mem_of_getElem? hHt.out)
           rw [hHb.out] at this; simp at this
       subst hRf
       clear hHR
       go_wp2
       go_ret
       exact ⟨rfl, hB2⟩
     | true =>
       go_wp2
       go_roundg (l.length - (i + 1))
       case measure => omega
       case rel =>
         refine ⟨i + 1, by omega, by go_num, hid (fun j x hj hx => ?_), k2, hB2⟩
         rcases Nat.lt_or_ge j i with h | h
         · exact hH.out j x h hx
         · have : j = i := by omega
           subst this
           rw [hHt.out] at hx
           injection hx with hx; subst hx
           exact hHb.out
set_option maxHeartbeats 4000000 in
set_option maxRecDepth 8000 in
theorem loop6 (od : Option Addr) (cd : Nat) (ol : Option Addr) (cl : Nat) (ob : Option Addr) (cb : Nat) (w : World) (nm : ByteArray) (l : List Tm) (hn : nm.toList = []) (h2 : ((l.length : Int) != 2) = false) (h255 : (l.length : Int) ≤ 255) (htR : TR (Low w) w l ol) (hTa : Hid (Tabs w))
   (hIH : Hid (∀ (t : Tm) (v : Value) (w' : World), t ∈ l → TV (Low w') w' t v → Tabs w' → May0 t v w')) : MayC 6 false od 0 cd nm 0 ol l.length cl ob 0 cb w (l.all (fun t => (parts t).all fairB)) := by
 obtain ⟨kX, hBX, hz0⟩ := bx1 w (.int .i64 6) (.bool false) (.slice od 0 cd) (.string nm) (.int .i64 0) (.slice ol l.length cl) (.slice ob 0 cb) 27
 obtain ⟨R, hR⟩ : ∃ R, l.all (fun t => (parts t).all fairB) = R := ⟨_, rfl⟩
 unfold MayC
 rw [hR]
 have hHR := hid hR
 clear hR
 go_enter Tryz.func39, Tryz.ntmps39
 simp only [List.append_eq, List.cons_append, List.nil_append]
 go_wp2_with fail
 generalize (w.alloc (.cells #[.int .i64 6, .bool false, .slice od 0 cd, .string nm, .int .i64 0, .slice ol l.length cl, .slice ob 0 cb] 27)) = W0 at *
 go_loopg [3] l.length (fun t v3 wr => ∃ i : Nat, t + i = l.length ∧ v3 = .int .i64 (i : Int) ∧ Hid (∀ j x, j < i → l[j]? = some x → (parts x).all fairB = true) ∧ Bx w.heap.size (.int .i64 6) (.bool false) (.slice od 0 cd) (.string nm) (.int .i64 0) (.slice ol l.length cl) (.slice ob 0 cb) wr ∧ Below w.heap.size w wr)
 case atStart => exact ⟨0, by omega, rfl, hid (fun j x hj => by omega), kX, hBX⟩
 case round =>
   obtain ⟨i, hti, rfl, hH, kr, hBr⟩ := hrel
   clear kX hBX
   obtain ⟨x0, x1, x2, x3, x4, x5, x6⟩ := kr.res
   by_cases hil : i = l.length
   · subst hil
     have hRt : R = true := by
       rw [← hHR.out, List.all_eq_true]
       intro x hx
       obtain ⟨j, hj, he⟩ := List.getElem_of_mem hx
       exact hH.out j x hj (by rw [List.getElem?_eq_getElem hj, he])
     subst hRt
     clear hHR
     go_wp2
     go_ret
     exact ⟨rfl, hBr⟩
   · have hil' : i < l.length := by omega
     have hii : ((i : Nat) : Int) < ((l.length : Nat) : Int) := by omega
     obtain ⟨t, ht⟩ : ∃ t, l[i]? = some t := ⟨l[i], by simp [hil']⟩
     obtain ⟨a, k', neg', od', ld', cd', nm', n', ol', ll', cl', ob', lb', cb', rfl, hTv', y0, y1, y2, y3, y4, y5, y6⟩ := htR.get ht hBr
     have hHt := hid ht
     have hI := hIH.out t _ wr (List.mem_of_getElem? ht) hTv' (hTa.out.below hBr)
     have hHI := hid hI
     clear ht hI hTv'
     go_wp2_with fail
     refine hHI.out.mono ?_
     rintro e w2 ⟨rfl, b2⟩
     have hB2 := below_and hBr (Nat.le_refl _) b2
     have k2 := kr.below b2
     obtain ⟨bb, hbb⟩ : ∃ bb, (parts t).all fairB = bb := ⟨_, rfl⟩
     rw [hbb]
     have hHb := hid hbb
     clear hbb hHI x0 x1 x2 x3 x4 x5 x6 y0 y1 y2 y3 y4 y5 y6 b2 hBr kr
     cases bb with
     | false =>
       have hRf : R = false := by
         rw [← hHR.out]
         cases hq : l.all (fun t => (parts t).all fairB) with
         | false => rfl
         | true =>
           rw [List.all_eq_true] at hq
           have := hq t (List.mem_of_getElem? hHt.out)
           rw [hHb.out] at this; simp at this
       subst hRf
       clear hHR
       go_wp2
       go_ret
       exact ⟨rfl, hB2⟩
     | true =>
       go_wp2
       go_roundg (l.length - (i + 1))
       case measure => omega
       case rel =>
         refine ⟨i + 1, by omega, by go_num, hid (fun j x hj hx => ?_), k2, hB2⟩
         rcases Nat.lt_or_ge j i with h | h
         · exact hH.out j x h hx
         · have : j = i := by omega
           subst this
           rw [hHt.out] at hx
           injection hx with hx; subst hx
           exact hHb.out
set_option maxHeartbeats 4000000 in
set_option maxRecDepth 8000 in
theorem long4 (od : Option Addr) (cd : Nat) (ol : Option Addr) (ll cl : Nat) (ob : Option Addr) (cb : Nat) (w : World) (nm : ByteArray) (hn : nm.toList = []) (h255 : (255 : Int) < (ll : Int)) : MayC 4 false od 0 cd nm 0 ol ll cl ob 0 cb w false := by
 go_enter Tryz.func39, Tryz.ntmps39
 simp only [List.append_eq, List.cons_append, List.nil_append]
 go_wp2
 go_ret
 exact ⟨rfl, (Below.refl _ w).alloc (Nat.le_refl _) _⟩
set_option maxHeartbeats 4000000 in
set_option maxRecDepth 8000 in
theorem long6 (od : Option Addr) (cd : Nat) (ol : Option Addr) (ll cl : Nat) (ob : Option Addr) (cb : Nat) (w : World) (nm : ByteArray) (hn : nm.toList = []) (h2 : ((ll : Int) != 2) = true) : MayC 6 false od 0 cd nm 0 ol ll cl ob 0 cb w false := by
 go_enter Tryz.func39, Tryz.ntmps39
 simp only [List.append_eq, List.cons_append, List.nil_append]
 go_wp2
 go_ret
 exact ⟨rfl, (Below.refl _ w).alloc (Nat.le_refl _) _⟩
theorem rmay_w : ∀ (N : Nat) (T : Tm) (v : Value) (w : World), tsz T ≤ N → (∀ p ∈ parts T, p.ok1) → TV (Low w) w T v → Tabs w → May0 T v w := by
 intro N
 induction N with
 | zero => intro T v w h; cases T; simp only [tsz] at h; omega
 | succ N ih =>
 intro T v w hN hok hT hTa
 have hok1 := hok T (by rw [parts_eq]; simp)
 cases T with | mk k neg d nm n l b =>
 have hIHg : k = 4 ∨ k = 6 → Hid (∀ (t : Tm) (v : Value) (w' : World), t ∈ l → TV (Low w') w' t v → Tabs w' → May0 t v w') := fun hk => hid (fun t v w' ht hV hTa' => by
   obtain ⟨i, hi⟩ := List.getElem?_of_mem ht
   refine ih t v w' (by have := tsz_mem hi; simp only [tsz] at hN; omega) (fun p hp => hok p ?_) hV hTa'
   have : parts (.mk k neg d nm n l b) = .mk k neg d nm n l b :: partsL l := by simp [parts, hk]
   rw [this]
   exact List.mem_cons_of_mem _ (mem_partsL hi hp))
 unfold TV at hT
 obtain ⟨od, cd, ol, cl, ob, cb, rfl, hL, hcd, hm, _, _, hcl, hTR⟩ := hT
 by_cases k0 : k = 0
 · subst k0; exact may_k0 hok1 hcd hL
 by_cases k1 : k = 1
 · subst k1; exact may_k1 hok1 hTa
 by_cases k2 : k = 2
 · subst k2; exact may_k2
 by_cases k3 : k = 3
 · subst k3; exact may_k3
 by_cases k7 : k = 7
 · subst k7; exact may_k7
 by_cases k4 : k = 4
 · subst k4
   by_cases c0 : neg = true
   · subst c0; unfold May0; rw [all_lean (by simp [leanB, prT, eqF])]; exact bad1a od cd ol cl ob cb w 4 _ nm n _ _ rfl
   have c0' : neg = false := by simpa using c0
   subst c0'
   by_cases c1 : (d.length : Int) = 0
   case neg => unfold May0; rw [all_lean (by have : d ≠ [] := (fun e => c1 (by rw [e]; rfl)); simp [leanB, prT, eqF, *])]; exact bad1b od cd ol cl ob cb w 4 _ nm n _ _ rfl (len0 c1)
   by_cases c2 : nm.toList = []
   case neg => unfold May0; rw [all_lean (by simp [leanB, prT, eqF, nil_noS, *])]; rw [lnil c1]; exact bad2b od cd ol cl ob cb w 4 nm n _ _ rfl rfl c2
   by_cases c3 : n = 0
   case neg => unfold May0; rw [all_lean (by simp [leanB, prT, eqF, nil_noS, *])]; rw [lnil c1]; exact bad3c od cd ol cl ob cb w 4 nm n _ _ rfl rfl rfl rfl c2 (ne_true c3)
   by_cases c5 : (b.length : Int) = 0
   case neg => unfold May0; rw [all_lean (by have : b ≠ [] := (fun e => c5 (by rw [e]; rfl)); simp [leanB, prT, eqF, nil_noS, *])]; subst c3; rw [lnil c1]; exact bad5e od cd ol cl ob cb w nm _ _ c2 (len0 c5)
   subst c3
   have e1 := lnil c1
   have e5 := lnil c5
   subst e1 e5
   have hle : leanB (.mk 4 false [] nm 0 l []) = true := by simp [leanB, prT, eqF, nil_noS, *]
   have hpp : (parts (.mk 4 false [] nm 0 l [])).all fairB = (withinB (.mk 4 false [] nm 0 l []) && l.all (fun t => (parts t).all fairB)) := by
     rw [parts_eq]
     simp only [List.all_cons, fairB, hle, Bool.true_and, Tm.kids]
     rw [← all_partsL]
     rfl
   unfold May0
   rw [hpp]
   by_cases h255 : (l.length : Int) ≤ 255
   · have hw : withinB (.mk 4 false [] nm 0 l []) = true := by simp [withinB]; omega
     rw [hw, Bool.true_and]
     exact loop4 od cd ol cl ob cb w nm l c2 h255 hTR (hid hTa) (hIHg (.inl rfl))
   · have hw : withinB (.mk 4 false [] nm 0 l []) = false := by simp [withinB]; omega
     rw [hw, Bool.false_and]
     exact long4 od cd ol l.length cl ob cb w nm c2 (by omega)
 by_cases k6 : k = 6
 · subst k6
   by_cases c0 : neg = true
   · subst c0; unfold May0; rw [all_lean (by simp [leanB, prT, eqF])]; exact bad1a od cd ol cl ob cb w 6 _ nm n _ _ rfl
   have c0' : neg = false := by simpa using c0
   subst c0'
   by_cases c1 : (d.length : Int) = 0
   case neg => unfold May0; rw [all_lean (by have : d ≠ [] := (fun e => c1 (by rw [e]; rfl)); simp [leanB, prT, eqF, *])]; exact bad1b od cd ol cl ob cb w 6 _ nm n _ _ rfl (len0 c1)
   by_cases c2 : nm.toList = []
   case neg => unfold May0; rw [all_lean (by simp [leanB, prT, eqF, nil_noS, *])]; rw [lnil c1]; exact bad2b od cd ol cl ob cb w 6 nm n _ _ rfl rfl c2
   by_cases c3 : n = 0
   case neg => unfold May0; rw [all_lean (by simp [leanB, prT, eqF, nil_noS, *])]; rw [lnil c1]; exact bad3c od cd ol cl ob cb w 6 nm n _ _ rfl rfl rfl rfl c2 (ne_true c3)
   by_cases c5 : (b.length : Int) = 0
   case neg => unfold May0; rw [all_lean (by have : b ≠ [] := (fun e => c5 (by rw [e]; rfl)); simp [leanB, prT, eqF, nil_noS, *])]; subst c3; rw [lnil c1]; exact bad5f od cd ol cl ob cb w nm _ _ c2 (len0 c5)
   subst c3
   have e1 := lnil c1
   have e5 := lnil c5
   subst e1 e5
   have hle : leanB (.mk 6 false [] nm 0 l []) = true := by simp [leanB, prT, eqF, nil_noS, *]
   have hpp : (parts (.mk 6 false [] nm 0 l [])).all fairB = (withinB (.mk 6 false [] nm 0 l []) && l.all (fun t => (parts t).all fairB)) := by
     rw [parts_eq]
     simp only [List.all_cons, fairB, hle, Bool.true_and, Tm.kids]
     rw [← all_partsL]
     rfl
   unfold May0
   rw [hpp]
   by_cases h2 : (l.length : Int) = 2
   · have hw : withinB (.mk 6 false [] nm 0 l []) = true := by simp [withinB]; omega
     rw [hw, Bool.true_and]
     exact loop6 od cd ol cl ob cb w nm l c2 (by simp; omega) (by omega) hTR (hid hTa) (hIHg (.inr rfl))
   · have hw : withinB (.mk 6 false [] nm 0 l []) = false := by simp [withinB]; omega
     rw [hw, Bool.false_and]
     exact long6 od cd ol l.length cl ob cb w nm c2 (by simp; omega)
 exact may_kx k0 k1 k2 k3 k4 k6 k7
set_option maxHeartbeats 1000000 in
theorem rMay_w (T : Tm) (v : Value) (w : World) (hok : ∀ p ∈ parts T, p.ok1) (hT : TV (Low w) w T v) (hTa : Tabs w) :
   Calls Tryz.prog 18 #[v] w fun e w' => e = .returned (.bool (mayB T)) ∧ Below w.heap.size w w' := by
 obtain ⟨k, neg, od, ld, cd, nm, n, ol, ll, cl, ob, lb, cb, rfl⟩ := hT.form
 obtain ⟨kX, hBX, hz0⟩ := bx1 w (.int .i64 k) (.bool neg) (.slice od ld cd) (.string nm) (.int .i64 n) (.slice ol ll cl) (.slice ob lb cb) 27
 have hTb : ∀ w', Below w.heap.size w w' → TV (Low w') w' T (tmV k neg (.slice od ld cd) nm n (.slice ol ll cl) (.slice ob lb cb)) := fun w' hb => tv_below hT hb
 obtain ⟨R, hR⟩ : ∃ R, mayB T = R := ⟨_, rfl⟩
 rw [hR]
 unfold mayB at hR
 have hHR := hid hR
 clear hR hT
 go_enter Tryz.func18, Tryz.ntmps18
 go_wp2_with fail
 generalize (w.alloc (.cells #[.int .i64 k, .bool neg, .slice od ld cd, .string nm, .int .i64 n, .slice ol ll cl, .slice ob lb cb] 27)) = w1 at *
 refine (rTree_w (tsz T) T _ _ (Nat.le_refl _) hok (hTb _ hBX)).mono ?_
 rintro e w2 ⟨rfl, b2⟩
 have hB2 := below_and hBX (Nat.le_refl _) b2
 obtain ⟨x0, x1, x2, x3, x4, x5, x6⟩ := (kX.below b2).res
 by_cases ht : treeN T ≤ 65536
 · have ht' : ((treeN T : Nat) : Int) ≤ 65536 := by omega
   have hRa : (parts T).all fairB = R := by rw [← hHR.out, decide_eq_true ht, Bool.true_and]
   have hHa := hid hRa
   clear ht hHR hRa
   go_wp2_with fail
   refine (rmay_w (tsz T) T _ _ (Nat.le_refl _) hok (hTb _ hB2) (hTa.below hB2)).mono ?_
   rintro e w3 ⟨rfl, b3⟩
   rw [hHa.out]
   have hB3 := below_and hB2 (Nat.le_refl _) b3
   go_wp2
   go_ret
   exact ⟨rfl, hB3⟩
 · have ht' : ¬ (((treeN T : Nat) : Int) ≤ 65536) := by omega
   have hRf : R = false := by rw [← hHR.out, decide_eq_false ht, Bool.false_and]
   subst hRf
   clear hHR ht
   go_wp2
   go_ret
   exact ⟨rfl, hB2⟩
def tupT (l : List Tm) : Tm := .mk 4 false [] noS 0 l []
def binT (b : List Nat) : Tm := .mk 7 false [] noS 0 [] b
def numT (k n : Int) : Tm := .mk k false [] noS n [] []
theorem tv_tup {w : World} {ls : List Tm} {o : Option Addr} {c : Nat} (h : TR (Low w) w ls o) (hc : ls.length ≤ c) : TV (Low w) w (tupT ls) (tmV 4 false nilS noS 0 (.slice o ls.length c) nilS) := by
 unfold tupT TV
 exact ⟨none, 0, o, c, none, 0, rfl, Ls.nil _ _ _, by simp, Lm.nil _, LsB.nil _ _ _, by simp, hc, h⟩
theorem tv_bin {w : World} {b : List Nat} {o : Option Addr} {c : Nat} (h : LsB (Low w) o b w) (hc : b.length ≤ c) : TV (Low w) w (binT b) (tmV 7 false nilS noS 0 nilS (.slice o b.length c)) := by
 unfold binT TV
 exact ⟨none, 0, none, 0, o, c, rfl, Ls.nil _ _ _, by simp, Lm.nil _, h, hc, by simp, by unfold TR; trivial⟩
theorem parts_tup (l : List Tm) : parts (tupT l) = tupT l :: partsL l := by simp [tupT, parts]
theorem parts_bin (b : List Nat) : parts (binT b) = [binT b] := by simp [binT, parts]
theorem cpT_tup (l : List Tm) : cpT (tupT l) = tupT (cpL l) := by simp [tupT, cpT]
theorem cpT_bin (b : List Nat) : cpT (binT b) = binT b := by simp [binT, cpT, prT]
set_option maxHeartbeats 1000000 in
theorem Tuple_w (ls : List Tm) (o : Option Addr) (c : Nat) (w : World) (hc : ls.length ≤ c) (hlen : (partsL ls).length ≤ 499999) (hl : ls.length ≤ 1000000) (hok : ∀ p ∈ partsL ls, p.ok1) (hT : TR (Low w) w ls o) :
   Calls Tryz.prog 51 #[.slice o ls.length c] w fun e w' => ∃ v', e = .returned v' ∧ TV (Zw w.heap.size w') w' (tupT (cpL ls)) v' ∧ Below w.heap.size w w' := by
 obtain ⟨kX, hBX, hz0⟩ := bx1 w (.int .i64 0) (.bool false) nilS (.string noS) (.int .i64 0) nilS nilS 27
 go_enter Tryz.func51, Tryz.ntmps51
 go_wp2_with fail
 generalize (w.alloc (.cells #[.int .i64 0, .bool false, .slice none 0 0, .string { data := #[] }, .int .i64 0, .slice none 0 0, .slice none 0 0] 27)) = W0 at *
 refine (Copy_w (tupT ls) _ _ (by rw [parts_tup]; simp; omega) (by rw [parts_tup]; intro p hp; rcases List.mem_cons.1 hp with rfl | hp; exact ⟨by simp, by decide, hl, by simp, Lm.nil _⟩; exact hok p hp) (tv_tup (tr_below hT hBX) hc)).mono ?_
 rintro e w2 ⟨v2, rfl, hV, b2⟩
 rw [cpT_tup] at hV
 have hBX := below_and hBX (by omega) b2
 have kX := kX.below b2
 clear b2
 obtain ⟨k9, neg9, od9, ld9, cd9, nm9, n9, ol9, ll9, cl9, ob9, lb9, cb9, rfl⟩ := hV.form
 have hf9 := kX.fr
 obtain ⟨x0, x1, x2, x3, x4, x5, x6⟩ := kX.res
 have hput := kX.put (b0 := .int .i64 k9) (b1 := .bool neg9) (b2 := .slice od9 ld9 cd9) (b3 := .string nm9) (b4 := .int .i64 n9) (b5 := .slice ol9 ll9 cl9) (b6 := .slice ob9 lb9 cb9)
 have hon := only_put w2 w.heap.size (.int .i64 k9) (.bool neg9) (.slice od9 ld9 cd9) (.string nm9) (.int .i64 n9) (.slice ol9 ll9 cl9) (.slice ob9 lb9 cb9)
 obtain ⟨r0, r1, r2, r3, r4, r5, r6⟩ := hput.res
 have hfin := hid (zw_move (S' := w.heap.size) hV (fun k hk _ => hon.2.2 k (by omega)) (by omega))
 have hBf := hBX.trans (hon.below (B := w.heap.size) (by omega))
 clear hV hon kX hput hBX
 go_wp2
 exact bodyPost_ret (v := tmV k9 neg9 (.slice od9 ld9 cd9) nm9 n9 (.slice ol9 ll9 cl9) (.slice ob9 lb9 cb9)) (by simp [results, Tryz.results51, go_sem, r0, r1, r2, r3, r4, r5, r6]) rfl ⟨_, rfl, hfin.out, hBf⟩
set_option maxHeartbeats 1000000 in
theorem Bin_w (b : List Nat) (o : Option Addr) (c : Nat) (w : World) (hc : b.length ≤ c) (hl : b.length ≤ 1000000) (hT : LsB (Low w) o b w) :
   Calls Tryz.prog 86 #[.slice o b.length c] w fun e w' => ∃ v', e = .returned v' ∧ TV (Zw w.heap.size w') w' (binT b) v' ∧ Below w.heap.size w w' := by
 obtain ⟨kX, hBX, hz0⟩ := bx1 w (.int .i64 0) (.bool false) nilS (.string noS) (.int .i64 0) nilS nilS 27
 go_enter Tryz.func86, Tryz.ntmps86
 go_wp2_with fail
 generalize (w.alloc (.cells #[.int .i64 0, .bool false, .slice none 0 0, .string { data := #[] }, .int .i64 0, .slice none 0 0, .slice none 0 0] 27)) = W0 at *
 refine (Copy_w (binT b) _ _ (by rw [parts_bin]; simp) (by rw [parts_bin]; intro p hp; simp at hp; subst hp; exact ⟨by simp, by decide, by simp, hl, Lm.nil _⟩) (tv_bin ((hT.zs (fun k hk => hBX.block k hk)).mono (fun k hk _ => hk)) hc)).mono ?_
 rintro e w2 ⟨v2, rfl, hV, b2⟩
 rw [cpT_bin] at hV
 have hBX := below_and hBX (by omega) b2
 have kX := kX.below b2
 clear b2
 obtain ⟨k9, neg9, od9, ld9, cd9, nm9, n9, ol9, ll9, cl9, ob9, lb9, cb9, rfl⟩ := hV.form
 have hf9 := kX.fr
 obtain ⟨x0, x1, x2, x3, x4, x5, x6⟩ := kX.res
 have hput := kX.put (b0 := .int .i64 k9) (b1 := .bool neg9) (b2 := .slice od9 ld9 cd9) (b3 := .string nm9) (b4 := .int .i64 n9) (b5 := .slice ol9 ll9 cl9) (b6 := .slice ob9 lb9 cb9)
 have hon := only_put w2 w.heap.size (.int .i64 k9) (.bool neg9) (.slice od9 ld9 cd9) (.string nm9) (.int .i64 n9) (.slice ol9 ll9 cl9) (.slice ob9 lb9 cb9)
 obtain ⟨r0, r1, r2, r3, r4, r5, r6⟩ := hput.res
 have hfin := hid (zw_move (S' := w.heap.size) hV (fun k hk _ => hon.2.2 k (by omega)) (by omega))
 have hBf := hBX.trans (hon.below (B := w.heap.size) (by omega))
 clear hV hon kX hput hBX
 go_wp2
 exact bodyPost_ret (v := tmV k9 neg9 (.slice od9 ld9 cd9) nm9 n9 (.slice ol9 ll9 cl9) (.slice ob9 lb9 cb9)) (by simp [results, Tryz.results86, go_sem, r0, r1, r2, r3, r4, r5, r6]) rfl ⟨_, rfl, hfin.out, hBf⟩
set_option maxHeartbeats 1000000 in
theorem Pid_w (n : Int) (w : World) : Calls Tryz.prog 87 #[.int .i64 n] w fun e w' => e = .returned (tmV 3 false nilS noS n nilS nilS) ∧ Below w.heap.size w w' := by
 go_enter Tryz.func87, Tryz.ntmps87
 go_wp2
 exact bodyPost_ret (v := tmV 3 false nilS noS n nilS nilS) (by simp [results, Tryz.results87, go_sem]) rfl ⟨rfl, (Below.refl _ w).alloc (Nat.le_refl _) _⟩
set_option maxHeartbeats 1000000 in
theorem Ref_w (n : Int) (w : World) : Calls Tryz.prog 88 #[.int .i64 n] w fun e w' => e = .returned (tmV 2 false nilS noS n nilS nilS) ∧ Below w.heap.size w w' := by
 go_enter Tryz.func88, Tryz.ntmps88
 go_wp2
 exact bodyPost_ret (v := tmV 2 false nilS noS n nilS nilS) (by simp [results, Tryz.results88, go_sem]) rfl ⟨rfl, (Below.refl _ w).alloc (Nat.le_refl _) _⟩
theorem RC.snoc {Z : Nat → Prop} {w : World} {t : Tm} {k : Int} {neg : Bool} {od : Option Addr} {ld cd : Nat} {nm : ByteArray} {n : Int} {ol : Option Addr} {ll cl : Nat} {ob : Option Addr} {lb cb : Nat} (ht : TV Z w t (tmV k neg (.slice od ld cd) nm n (.slice ol ll cl) (.slice ob lb cb))) :
   ∀ {l : List Tm} {xs : List Value}, RC Z w l xs → RC Z w (l ++ [t]) (xs ++ [.int .i64 k, .bool neg, .slice od ld cd, .string nm, .int .i64 n, .slice ol ll cl, .slice ob lb cb])
 | [], xs, h => by
   have : xs = [] := h
   subst this
   exact ⟨_, _, _, _, _, _, _, _, _, _, _, _, _, [], ht, rfl, rfl⟩
 | q :: l, xs, h => by
   obtain ⟨k', neg', od', ld', cd', nm', n', ol', ll', cl', ob', lb', cb', ys, hq, rfl, hr⟩ := h
   exact ⟨_, _, _, _, _, _, _, _, _, _, _, _, _, _, hq, rfl, hr.snoc ht⟩
theorem RC.mono {Z Z' : Nat → Prop} {w : World} (hb : ∀ k, k < w.heap.size → Z k → Z' k) : ∀ {l : List Tm} {xs : List Value}, RC Z w l xs → RC Z' w l xs
 | [], xs, h => h
 | t :: l, xs, h => by
   obtain ⟨k, neg, od, ld, cd, nm, n, ol, ll, cl, ob, lb, cb, ys, ht, rfl, hr⟩ := h
   exact ⟨k, neg, od, ld, cd, nm, n, ol, ll, cl, ob, lb, cb, ys, TV.mono hb _ _ ht, rfl, hr.mono hb⟩
def joinC : List (List UInt8) → List UInt8
 | [] => []
 | [x] => x
 | x :: y :: l => x ++ 44 :: joinC (y :: l)
def byT (b : Nat) : List UInt8 := Lib.itoa (b : Int)
def leafX (k : Int) (neg : Bool) (d : List Nat) (nm : ByteArray) (n : Int) (b : List Nat) : List UInt8 :=
 if k = 0 then txt (sv neg (gval 4294967296 d))
 else if k = 1 then quoteL nm.data.toList
 else if k = 2 then 35 :: Lib.itoa n
 else if k = 3 then 60 :: (Lib.itoa n ++ [62])
 else if k = 7 then [60, 60] ++ (joinC (b.map byT) ++ [62, 62])
 else [91, 93]
def two (l : List (List UInt8 × List UInt8)) : List UInt8 :=
 match l with
 | [h, t] => h.1 ++ t.2
 | _ => []
mutual
def tp : Tm → List UInt8 × List UInt8
 | .mk k neg d nm n l b =>
   if k = 6 then (91 :: two (tpL l), 44 :: two (tpL l))
   else if k = 4 then (123 :: (joinC ((tpL l).map (·.1)) ++ [125]), 124 :: (123 :: (joinC ((tpL l).map (·.1)) ++ [125])) ++ [93])
   else if k = 5 then ([91, 93], [93])
   else (leafX k neg d nm n b, 124 :: leafX k neg d nm n b ++ [93])
def tpL : List Tm → List (List UInt8 × List UInt8)
 | [] => []
 | t :: l => tp t :: tpL l
end
def tx (T : Tm) : List UInt8 := (tp T).1
def tb (T : Tm) : List UInt8 := (tp T).2
theorem tpL_map (l : List Tm) : tpL l = l.map tp := by
 induction l with
 | nil => rfl
 | cons t l ih => unfold tpL; rw [ih]; rfl
theorem tp_eq (k : Int) (neg : Bool) (d : List Nat) (nm : ByteArray) (n : Int) (l : List Tm) (b : List Nat) : tp (.mk k neg d nm n l b) =
   if k = 6 then (91 :: two (tpL l), 44 :: two (tpL l))
   else if k = 4 then (123 :: (joinC ((tpL l).map (·.1)) ++ [125]), 124 :: (123 :: (joinC ((tpL l).map (·.1)) ++ [125])) ++ [93])
   else if k = 5 then ([91, 93], [93])
   else (leafX k neg d nm n b, 124 :: leafX k neg d nm n b ++ [93]) := by rw [tp]
theorem tx_leaf {k : Int} {neg : Bool} {d : List Nat} {nm : ByteArray} {n : Int} {l : List Tm} {b : List Nat} (h4 : k ≠ 4) (h6 : k ≠ 6) : tx (.mk k neg d nm n l b) = leafX k neg d nm n b := by
 show (tp _).1 = _
 rw [tp_eq, if_neg h6, if_neg h4]
 by_cases h5 : k = 5
 · subst h5; simp [leafX]
 · rw [if_neg h5]
theorem tx_tuple {neg : Bool} {d : List Nat} {nm : ByteArray} {n : Int} {l : List Tm} {b : List Nat} : tx (.mk 4 neg d nm n l b) = 123 :: (joinC (l.map tx) ++ [125]) := by
 have e : (tpL l).map (·.1) = l.map tx := by rw [tpL_map, List.map_map]; rfl
 show (tp _).1 = _
 rw [tp_eq, if_neg (by decide), if_pos rfl, e]
theorem two_eq (H T : Tm) : two (tpL [H, T]) = tx H ++ tb T := by rw [tpL_map]; rfl
theorem tx_cons {neg : Bool} {d : List Nat} {nm : ByteArray} {n : Int} {H T : Tm} {b : List Nat} : tx (.mk 6 neg d nm n [H, T] b) = 91 :: (tx H ++ tb T) := by
 show (tp _).1 = _
 rw [tp_eq, if_pos rfl, two_eq]
theorem tb_cons {neg : Bool} {d : List Nat} {nm : ByteArray} {n : Int} {H T : Tm} {b : List Nat} : tb (.mk 6 neg d nm n [H, T] b) = 44 :: (tx H ++ tb T) := by
 show (tp _).2 = _
 rw [tp_eq, if_pos rfl, two_eq]
theorem tb_nil {neg : Bool} {d : List Nat} {nm : ByteArray} {n : Int} {l : List Tm} {b : List Nat} : tb (.mk 5 neg d nm n l b) = [93] := by
 show (tp _).2 = _
 rw [tp_eq, if_neg (by decide), if_neg (by decide), if_pos rfl]
theorem tb_other {T : Tm} (h5 : T.kind ≠ 5) (h6 : T.kind ≠ 6) : tb T = 124 :: (tx T ++ [93]) := by
 cases T with | mk k neg d nm n l b =>
 simp only [Tm.kind] at h5 h6
 show (tp _).2 = 124 :: ((tp _).1 ++ [93])
 rw [tp_eq, if_neg h6]
 by_cases h4 : k = 4
 · rw [if_pos h4]; rfl
 · rw [if_neg h4, if_neg h5]; rfl
inductive Pc where
 | mk (r : Nat)
 | tl (T : Tm)
 | tm (T : Tm)
def Pc.text : Pc → List UInt8
 | .mk r => [UInt8.ofNat r]
 | .tl T => tb T
 | .tm T => tx T
def Pc.work : Pc → Nat
 | .mk _ => 1
 | .tl T => 3 * (parts T).length + 2
 | .tm T => 3 * (parts T).length - 1
def rem : List Pc → List UInt8
 | [] => []
 | p :: l => p.text ++ rem l
def works : List Pc → Nat
 | [] => 0
 | p :: l => p.work + works l
theorem rem_append (a b : List Pc) : rem (a ++ b) = rem a ++ rem b := by
 induction a with
 | nil => rfl
 | cons p a ih => simp [rem, ih]
theorem works_append (a b : List Pc) : works (a ++ b) = works a + works b := by
 induction a with
 | nil => simp [works]
 | cons p a ih => simp [works, ih]; omega
def itemsPc : List Tm → List Pc
 | [] => []
 | [t] => [.tm t]
 | t :: u :: l => .tm t :: .mk 44 :: itemsPc (u :: l)
theorem rem_items (l : List Tm) : rem (itemsPc l) = joinC (l.map tx) := by
 match l with
 | [] => rfl
 | [t] => simp [itemsPc, rem, joinC, Pc.text]
 | t :: u :: l =>
   have ih := rem_items (u :: l)
   simp only [itemsPc, rem, Pc.text, List.map_cons, joinC] at ih ⊢
   rw [ih]; rfl
theorem parts_pos (T : Tm) : 1 ≤ (parts T).length := by rw [parts_eq]; simp
theorem works_items (l : List Tm) : works (itemsPc l) + 1 ≤ 3 * (partsL l).length + 1 := by
 match l with
 | [] => simp [itemsPc, works, partsL]
 | [t] => have := parts_pos t; simp [itemsPc, works, partsL, Pc.work] <;> omega
 | t :: u :: l =>
   have ih := works_items (u :: l)
   have := parts_pos t
   simp only [itemsPc, works, Pc.work] at ih ⊢
   have e : (partsL (t :: u :: l)).length = (parts t).length + (partsL (u :: l)).length := by simp [partsL]
   omega
theorem kids_mem {T : Tm} {l : List Tm} (h : T.kids = l) : (parts T).length = 1 + (partsL l).length := by rw [parts_eq, h, List.length_cons]; omega
theorem items_cons (t : Tm) (l : List Tm) : itemsPc (t :: l) = if l = [] then [.tm t] else .tm t :: .mk 44 :: itemsPc l := by
 cases l with
 | nil => rfl
 | cons u l => simp [itemsPc]
def stI (l : List Tm) (j : Nat) : List Pc := if j = 0 then itemsPc l else if j = l.length then [] else .mk 44 :: itemsPc (l.drop j)
theorem stI_step {l : List Tm} {j : Nat} {t : Tm} (h : l[j]? = some t) : Pc.tm t :: stI l (j + 1) = itemsPc (l.drop j) := by
 have hj := (List.getElem?_eq_some_iff.1 h).1
 have hd : l.drop j = t :: l.drop (j + 1) := by
   rw [List.drop_eq_getElem_cons hj]
   rw [List.getElem?_eq_getElem hj] at h
   injection h with h
   rw [h]
 rw [hd, items_cons]
 unfold stI
 rw [if_neg (by omega)]
 by_cases e : j + 1 = l.length
 · rw [if_pos e, if_pos (by rw [List.drop_eq_nil_iff]; omega)]
 · rw [if_neg e, if_neg (by rw [List.drop_eq_nil_iff]; omega)]
theorem stI_full (l : List Tm) : stI l l.length = [] := by
 unfold stI
 by_cases e : l.length = 0
 · rw [if_pos e, List.eq_nil_of_length_eq_zero e]; rfl
 · rw [if_neg e, if_pos rfl]
theorem stI_len (l : List Tm) (j : Nat) (hjl : j ≤ l.length) : (stI l j).length ≤ 2 * l.length := by
 have h : ∀ q : List Tm, (itemsPc q).length + 1 ≤ 2 * q.length ∨ q = [] := by
   intro q
   induction q with
   | nil => exact .inr rfl
   | cons t q ih =>
     refine .inl ?_
     rw [items_cons]
     rcases ih with ih | rfl
     · split
       · simp; omega
       · simp; omega
     · simp
 unfold stI
 split
 · rcases h l with h | rfl
   · omega
   · simp [itemsPc]
 · split
   · simp
   · rename_i h0 h1
     by_cases hj : j < l.length
     · rcases h (l.drop j) with h | h
       · simp at h ⊢; omega
       · simp [h, itemsPc]; omega
     · omega
theorem joinC_snoc (xs : List (List UInt8)) (y : List UInt8) : joinC (xs ++ [y]) = if xs = [] then y else joinC xs ++ 44 :: y := by
 induction xs with
 | nil => rfl
 | cons x xs ih =>
   cases xs with
   | nil => rfl
   | cons z xs =>
     simp only [List.cons_append, joinC] at ih ⊢
     rw [ih, if_neg (by simp), if_neg (by simp)]
     simp
end Go.Proofs.YtlojfmlaookpmaaGreatDoor
