/- Texts of mine, one behind the other: TermDet2, TermCp, TermCj, TermCopies, TermMake. -/
import Derived.Test.YtjacoodfhkaioabGreatDoorSrF
namespace Go.Proofs.YtjacoodfhkaioabGreatDoor
open Go.ChangeShapes Go.WideShapes Go.ChangeAt Go.RowKit Go.Shelf
set_option linter.unusedSimpArgs false
set_option linter.unusedVariables false
set_option maxRecDepth 2000
theorem wp_append_run {P : Program} {w : World} {o : Oper} {a : Act} {K : Act → World → Prop} {Q : Exit → Act → World → Prop} (s x : Operand) (t : TypeId) (ho : o.op = .call { callee := .builtin .append, args := #[s, x], argTypes := #[t, t] })
    (vs vx v' : Value) (w' : World) (hs : a.eval s = vs) (hx : a.eval x = vx) (hr : (Builtin.append_ #[t, t] o.type #[vs, vx]).run P w = .ok v' w') (h : K (a.put o.dst v') w') : o.wp P a w K Q := by
  unfold Oper.wp execOp
  simp only [ho, resolve, invoke, builtin, Sem.run_bind, Sem.run_pure, Result.andThen_ok, List.map_toArray, List.map_cons, List.map_nil, hs, hx, hr]
  exact h
theorem wpList_append_run {P : Program} {w : World} {ops : Array Oper} {rest : List Oper} {o : Oper} {a : Act} {Q : Exit → Act → World → Prop} (hgd : o.guard = none) (s x : Operand) (t : TypeId) (ho : o.op = .call { callee := .builtin .append, args := #[s, x], argTypes := #[t, t] })
    (vs vx v' : Value) (w' : World) (hs : a.eval s = vs) (hx : a.eval x = vx) (hr : (Builtin.append_ #[t, t] o.type #[vs, vx]).run P w = .ok v' w') (h : wpList P ops Q rest (a.put o.dst v') w') : wpList P ops Q (o :: rest) a w :=
  wpList_plain hgd fun _ hK => wp_append_run s x t ho vs vx v' w' hs hx hr (hK _ _ h)
/-- a part on memory of its own, its own parts as they were -/
def Dt (S B : Nat) (w : World) : Tm → Value → Prop
  | .mk k neg d nm n l b, v => ∃ D L Bv xs, v = tmV k neg D nm n L Bv ∧ w.ownsRow B 104 1 D d.length (lim d) ∧ w.ownsRow B 26 7 L l.length xs ∧ RC (fun k => k < S) w l xs ∧ w.ownsRow B 5 1 Bv b.length (bts b) ∧ Lm 4294967296 d ∧ Lm 256 b
theorem prT_ok {T : Tm} (h : T.ok1) : (prT T).ok1 := by
  cases T with | mk k neg d nm n l b =>
  obtain ⟨h1, h2, h3, h4, h5⟩ : d.length ≤ 1000000 ∧ nm.size ≤ 1000000 ∧ l.length ≤ 1000000 ∧ b.length ≤ 1000000 ∧ Lm 4294967296 d := h
  have z3 : Lm 4294967296 [] := Lm.nil _
  have z0 : noS.size ≤ 1000000 := by decide
  unfold prT
  by_cases e0 : k = 0
  · subst e0; exact ⟨h1, z0, by simp, by simp, h5⟩
  by_cases e1 : k = 1
  · subst e1; exact ⟨by simp, h2, by simp, by simp, z3⟩
  by_cases e2 : k = 2
  · subst e2; exact ⟨by simp, z0, by simp, by simp, z3⟩
  by_cases e3 : k = 3
  · subst e3; exact ⟨by simp, z0, by simp, by simp, z3⟩
  by_cases e4 : k = 4
  · subst e4; exact ⟨by simp, z0, h3, by simp, z3⟩
  by_cases e6 : k = 6
  · subst e6; exact ⟨by simp, z0, h3, by simp, z3⟩
  by_cases e7 : k = 7
  · subst e7; exact ⟨by simp, z0, by simp, h4, z3⟩
  simp only [e0, e1, e2, e3, e4, e6, e7, if_false]
  exact ⟨by simp, z0, by simp, by simp, z3⟩
theorem own_keptS {w w' : World} {F : Nat → Prop} {B s : Nat} {e : TypeId} {v : Value} {m : Nat} {xs : List Value} (h : w.ownsRow B e s v m xs) (hk : Kept F w w') (hF : ∀ k, F k → k < B) : w'.ownsRow B e s v m xs := by
  obtain ⟨h1, h2 | ⟨g', cap', cur, h2, hB, hg, rest⟩⟩ := h
  · exact ⟨h1, .inl h2⟩
  · exact ⟨h1, .inr ⟨g', cap', cur, h2, hB, (hk.block g' (Array.getElem?_eq_some_iff.1 hg).1 (fun hf => by have := hF _ hf; omega)).trans hg, rest⟩⟩
set_option maxHeartbeats 2000000 in
theorem detached_w (S : Nat) (T : Tm) (v : Value) (w : World) (hS : S ≤ w.heap.size) (hok : T.ok1) (hT : TV (fun k => k < S) w T v) :
    Calls Tryz.prog 114 #[v] w fun e w' => ∃ v', e = .returned v' ∧ Dt S w.heap.size w' (prT T) v' ∧ Below w.heap.size w w' := by
  have hpok := prT_ok hok
  cases T with | mk tk tneg td tnm tn tl tb =>
  have hT0 := hT
  unfold TV at hT
  obtain ⟨tod, tcd, tol, tcl, tob, tcb, rfl, _⟩ := hT
  have hp := prV_tv hT0
  clear hT0 hok
  generalize prT (.mk tk tneg td tnm tn tl tb) = P at *
  cases P with | mk pk pneg pd pnm pn pl pb =>
  obtain ⟨q1, q2, q3, q4, q5⟩ : pd.length ≤ 1000000 ∧ pnm.size ≤ 1000000 ∧ pl.length ≤ 1000000 ∧ pb.length ≤ 1000000 ∧ Lm 4294967296 pd := hpok
  unfold TV at hp
  obtain ⟨pod, pcd, pol, pcl, pob, pcb, hpv, hpD, _, _, hpB, _, _, hpL⟩ := hp
  unfold tmV at hpv
  obtain ⟨kA, kB, hB0, hz0⟩ := bx2 w (.int .i64 tk) (.bool tneg) (.slice tod td.length tcd) (.string tnm) (.int .i64 tn) (.slice tol tl.length tcl) (.slice tob tb.length tcb) (.int .i64 0) (.bool false) nilS (.string noS) (.int .i64 0) nilS nilS 26 26
  obtain ⟨xs, hRC, hLc⟩ := hpL.rc
  obtain ⟨iD, hD0, hD1, hD2, hD3⟩ := info_parts info32u
  obtain ⟨iB, hB1', hB2', hB3', hB4'⟩ := info_parts info8
  obtain ⟨iT, hT1, hT2, hT3, hT4⟩ := info_parts infoT
  clear hpL
  go_enter Tryz.func114, Tryz.ntmps114
  go_wp2_with fail
  generalize ((w.alloc (.cells #[.int .i64 tk, .bool tneg, .slice tod td.length tcd, .string tnm, .int .i64 tn, .slice tol tl.length tcl, .slice tob tb.length tcb] 26)).alloc (.cells #[.int .i64 0, .bool false, .slice none 0 0, .string { data := #[] }, .int .i64 0, .slice none 0 0, .slice none 0 0] 26)) = W0 at *
  refine (pruned_w tk tneg tod td.length tcd tnm tn tol tl.length tcl tob tb.length tcb _).mono ?_
  rintro e w1 ⟨rfl, b1⟩
  rw [hpv]
  clear hpv
  have hBB1 := below_and hB0 (Nat.le_refl _) b1
  have kA1 := kA.below b1
  have kB1 := kB.below b1
  have hz1 : w.heap.size + 2 ≤ w1.heap.size := by have := b1.size; omega
  clear kA kB b1 hB0
  obtain ⟨f0, f1, f2, f3, f4, f5, f6, ff⟩ := id kA1
  go_upto_region 2 with fail
  have kA2 := kA1.put (b0 := .int .i64 pk) (b1 := .bool pneg) (b2 := .slice pod pd.length pcd) (b3 := .string pnm) (b4 := .int .i64 pn) (b5 := .slice pol pl.length pcl) (b6 := .slice pob pb.length pcb)
  have ho2 := only_put w1 w.heap.size (.int .i64 pk) (.bool pneg) (.slice pod pd.length pcd) (.string pnm) (.int .i64 pn) (.slice pol pl.length pcl) (.slice pob pb.length pcb)
  have kB2 := kB1.only ho2 (by omega)
  have hB2 := hBB1.trans (ho2.below (B := w.heap.size) (Nat.le_refl _))
  have hz2 := ho2.2.1
  clear kA1 kB1 f0 f1 f2 f3 f4 f5 f6 ff hBB1 ho2
  generalize (((((((w1.setCell ⟨w.heap.size, 0, none⟩ (.int .i64 pk)).setCell ⟨w.heap.size, 1, none⟩ (.bool pneg)).setCell ⟨w.heap.size, 2, none⟩ (.slice pod pd.length pcd)).setCell ⟨w.heap.size, 3, none⟩ (.string pnm)).setCell ⟨w.heap.size, 4, none⟩ (.int .i64 pn)).setCell ⟨w.heap.size, 5, none⟩ (.slice pol pl.length pcl)).setCell ⟨w.heap.size, 6, none⟩ (.slice pob pb.length pcb)) = w2 at *
  -- the limbs
  obtain ⟨vD, w3, hr3, hO3, b3⟩ := ap_run 22 104 iD (.int .u32 0) 1 4 Tryz.underlying22 hD0 hD1 hD2 hD3 rfl (by decide) w2 pod pcd pd.length (lim pd) (by simp) (fun u hu => by obtain ⟨x, _, rfl⟩ := List.mem_map.1 hu; rfl) q1 (by omega) (hpD.zs (fun k hk => hB2.block k (Nat.lt_of_lt_of_le hk hS))).lc
  obtain ⟨oD, cD, rfl, _⟩ := own_sl hO3
  have kA3 := kA2.below b3
  have kB3 := kB2.below b3
  have hB3 := below_and hB2 (Nat.le_refl _) b3
  have hz3 : w.heap.size + 2 ≤ w3.heap.size := by have := b3.size; omega
  have hO3' : w3.ownsRow (w.heap.size + 2) 104 1 (.slice oD pd.length cD) pd.length (lim pd) := own_mono hO3 (by omega)
  obtain ⟨f0, f1, f2, f3, f4, f5, f6, ff⟩ := id kA2
  have ff3 := kA3.fr
  have g2 := kA3.c2
  clear b3 hO3
  go_upto_region 3 with (at_builtin; refine wpList_append_run rfl _ _ 22 rfl _ _ _ _ rfl rfl hr3 ?_)
  have kA4 := kA3.s2 (.slice oD pd.length cD)
  have ho4 := only_set w3 w.heap.size 2 (.slice oD pd.length cD)
  have kB4 := kB3.only ho4 (by omega)
  have hB4 := hB3.trans (ho4.below (B := w.heap.size) (Nat.le_refl _))
  have hO4 := own_set hO3' (p := ⟨w.heap.size, 2, none⟩) (by show w.heap.size < w.heap.size + 2; omega) (.slice oD pd.length cD)
  have hz4 : w.heap.size + 2 ≤ (w3.setCell ⟨w.heap.size, 2, none⟩ (.slice oD pd.length cD)).heap.size := by rw [ho4.2.1]; exact hz3
  clear f0 f1 f2 f3 f4 f5 f6 ff ff3 g2 kA3 kB3 kA2 kB2 hr3 ho4 hO3' hB3 hz3 hB2
  generalize (w3.setCell ⟨w.heap.size, 2, none⟩ (.slice oD pd.length cD)) = w4 at *
  -- the name
  obtain ⟨f0, f1, f2, f3, f4, f5, f6, ff⟩ := id kA4
  go_wp2_with fail
  refine (sclone_w pnm _ (by omega)).mono ?_
  rintro e w5 ⟨rfl, b5⟩
  have kA5 := kA4.below b5
  have kB5 := kB4.below b5
  have hB5 := below_and hB4 (Nat.le_refl _) b5
  have hO5 := own_below hO4 b5
  have hz5 : w.heap.size + 2 ≤ w5.heap.size := Nat.le_trans hz4 b5.size
  clear f0 f1 f2 f3 f4 f5 f6 ff kA4 kB4 hB4 hO4 hz4 b5
  obtain ⟨f0, f1, f2, f3, f4, f5, f6, ff⟩ := id kA5
  go_upto_region 4 with fail
  have kA6 := kA5.s3 (.string pnm)
  have ho6 := only_set w5 w.heap.size 3 (.string pnm)
  have kB6 := kB5.only ho6 (by omega)
  have hB6 := hB5.trans (ho6.below (B := w.heap.size) (Nat.le_refl _))
  have hO6 := own_set hO5 (p := ⟨w.heap.size, 3, none⟩) (by show w.heap.size < w.heap.size + 2; omega) (.string pnm)
  have hz6 : w.heap.size + 2 ≤ (w5.setCell ⟨w.heap.size, 3, none⟩ (.string pnm)).heap.size := by rw [ho6.2.1]; exact hz5
  clear f0 f1 f2 f3 f4 f5 f6 ff kA5 kB5 ho6 hO5 hB5 hz5
  generalize (w5.setCell ⟨w.heap.size, 3, none⟩ (.string pnm)) = w6 at *
  -- the parts
  have hRC6 := hRC.zs (fun k hk => hB6.block k (Nat.lt_of_lt_of_le hk hS))
  obtain ⟨vL, w7, hr7, hL7, b7⟩ := ap_run 23 26 iT _ 7 112 Tryz.underlying23 hT1 hT2 hT3 hT4 rfl (by decide) w6 pol pcl pl.length xs hRC6.len hRC6.one q3 (by omega) (fun j u hj => by
    obtain ⟨a, ha, hc⟩ := hLc j u hj
    exact ⟨a, ha, (hB6.cell (World.block_lt_of_cell? _ _ hc)).trans hc⟩)
  obtain ⟨oL, cL, rfl, _⟩ := own_sl hL7
  have hRC7 := hRC6.zs (fun k hk => b7.block k (by have := hB6.size; omega))
  have kA7 := kA6.below b7
  have kB7 := kB6.below b7
  have hB7 := below_and hB6 (Nat.le_refl _) b7
  have hO7 := own_below hO6 b7
  have hz7 : w.heap.size + 2 ≤ w7.heap.size := Nat.le_trans hz6 b7.size
  have hL7' : w7.ownsRow (w.heap.size + 2) 26 7 (.slice oL pl.length cL) pl.length xs := own_mono hL7 hz6
  obtain ⟨f0, f1, f2, f3, f4, f5, f6, ff⟩ := id kA6
  have ff3 := kA7.fr
  have g2 := kA7.c5
  clear b7 hL7 hRC6 hLc hRC
  go_upto_region 5 with (at_builtin; refine wpList_append_run rfl _ _ 23 rfl _ _ _ _ rfl rfl hr7 ?_)
  have kA8 := kA7.s5 (.slice oL pl.length cL)
  have ho8 := only_set w7 w.heap.size 5 (.slice oL pl.length cL)
  have kB8 := kB7.only ho8 (by omega)
  have hB8 := hB7.trans (ho8.below (B := w.heap.size) (Nat.le_refl _))
  have hO8 := own_set hO7 (p := ⟨w.heap.size, 5, none⟩) (by show w.heap.size < w.heap.size + 2; omega) (.slice oL pl.length cL)
  have hL8 := own_set hL7' (p := ⟨w.heap.size, 5, none⟩) (by show w.heap.size < w.heap.size + 2; omega) (.slice oL pl.length cL)
  have hRC8 := hRC7.zs (w' := w7.setCell ⟨w.heap.size, 5, none⟩ (.slice oL pl.length cL)) (fun k hk => ho8.2.2 k (by omega))
  have hz8 : w.heap.size + 2 ≤ (w7.setCell ⟨w.heap.size, 5, none⟩ (.slice oL pl.length cL)).heap.size := by rw [ho8.2.1]; exact hz7
  clear f0 f1 f2 f3 f4 f5 f6 ff ff3 g2 kA7 kB7 kA6 kB6 hr7 ho8 hL7' hB7 hz7 hB6 hO7 hRC7 hO6 hz6
  generalize (w7.setCell ⟨w.heap.size, 5, none⟩ (.slice oL pl.length cL)) = w8 at *
  -- the bytes
  obtain ⟨vB, w9, hr9, hb9, b9⟩ := ap_run 24 5 iB (.int .u8 0) 1 1 Tryz.underlying24 hB1' hB2' hB3' hB4' rfl (by decide) w8 pob pcb pb.length (bts pb) (by simp) (fun u hu => by obtain ⟨x, _, rfl⟩ := List.mem_map.1 hu; rfl) q4 (by omega) (hpB.zs (fun k hk => hB8.block k (Nat.lt_of_lt_of_le hk hS))).1.lc
  obtain ⟨oB, cB, rfl, _⟩ := own_sl hb9
  have hRC9 := hRC8.zs (fun k hk => b9.block k (by have := hB8.size; omega))
  have kA9 := kA8.below b9
  have kB9 := kB8.below b9
  have hB9 := below_and hB8 (Nat.le_refl _) b9
  have hO9 := own_below hO8 b9
  have hL9 := own_below hL8 b9
  have hz9 : w.heap.size + 2 ≤ w9.heap.size := Nat.le_trans hz8 b9.size
  have hb9' : w9.ownsRow (w.heap.size + 2) 5 1 (.slice oB pb.length cB) pb.length (bts pb) := own_mono hb9 hz8
  obtain ⟨f0, f1, f2, f3, f4, f5, f6, ff⟩ := id kA8
  have ff3 := kA9.fr
  have g2 := kA9.c6
  clear b9 hb9 hRC8
  go_upto_region 6 with (at_builtin; refine wpList_append_run rfl _ _ 24 rfl _ _ _ _ rfl rfl hr9 ?_)
  have kA10 := kA9.s6 (.slice oB pb.length cB)
  have ho10 := only_set w9 w.heap.size 6 (.slice oB pb.length cB)
  have kB10 := kB9.only ho10 (by omega)
  have hB10 := hB9.trans (ho10.below (B := w.heap.size) (Nat.le_refl _))
  have hO10 := own_set hO9 (p := ⟨w.heap.size, 6, none⟩) (by show w.heap.size < w.heap.size + 2; omega) (.slice oB pb.length cB)
  have hL10 := own_set hL9 (p := ⟨w.heap.size, 6, none⟩) (by show w.heap.size < w.heap.size + 2; omega) (.slice oB pb.length cB)
  have hb10 := own_set hb9' (p := ⟨w.heap.size, 6, none⟩) (by show w.heap.size < w.heap.size + 2; omega) (.slice oB pb.length cB)
  have hRC10 := hRC9.zs (w' := w9.setCell ⟨w.heap.size, 6, none⟩ (.slice oB pb.length cB)) (fun k hk => ho10.2.2 k (by omega))
  have hz10 : w.heap.size + 2 ≤ (w9.setCell ⟨w.heap.size, 6, none⟩ (.slice oB pb.length cB)).heap.size := by rw [ho10.2.1]; exact hz9
  clear f0 f1 f2 f3 f4 f5 f6 ff ff3 g2 kA9 kB9 kA8 kB8 hr9 ho10 hb9' hB9 hz9 hB8 hO9 hL9 hRC9 hO8 hL8 hz8
  generalize (w9.setCell ⟨w.heap.size, 6, none⟩ (.slice oB pb.length cB)) = wA at *
  -- the answer
  obtain ⟨f0, f1, f2, f3, f4, f5, f6, ff⟩ := id kA10
  obtain ⟨g0, g1, g2, g3, g4, g5, g6, gf⟩ := id kB10
  have hput := kB10.put (b0 := .int .i64 pk) (b1 := .bool pneg) (b2 := .slice oD pd.length cD) (b3 := .string pnm) (b4 := .int .i64 pn) (b5 := .slice oL pl.length cL) (b6 := .slice oB pb.length cB)
  have hon := only_put wA (w.heap.size + 1) (.int .i64 pk) (.bool pneg) (.slice oD pd.length cD) (.string pnm) (.int .i64 pn) (.slice oL pl.length cL) (.slice oB pb.length cB)
  obtain ⟨r0, r1, r2, r3, r4, r5, r6, _⟩ := hput
  go_wp2
  have hkp : Kept (fun k => k = w.heap.size + 1) wA (((((((wA.setCell ⟨w.heap.size + 1, 0, none⟩ (.int .i64 pk)).setCell ⟨w.heap.size + 1, 1, none⟩ (.bool pneg)).setCell ⟨w.heap.size + 1, 2, none⟩ (.slice oD pd.length cD)).setCell ⟨w.heap.size + 1, 3, none⟩ (.string pnm)).setCell ⟨w.heap.size + 1, 4, none⟩ (.int .i64 pn)).setCell ⟨w.heap.size + 1, 5, none⟩ (.slice oL pl.length cL)).setCell ⟨w.heap.size + 1, 6, none⟩ (.slice oB pb.length cB)) := ⟨hon.1.os, hon.1.tape, hon.1.output, hon.1.size, fun k hk hn => hon.2.2 k hn⟩
  refine bodyPost_ret (v := tmV pk pneg (.slice oD pd.length cD) pnm pn (.slice oL pl.length cL) (.slice oB pb.length cB)) (by simp [results, Tryz.results114, go_sem, r0, r1, r2, r3, r4, r5, r6]) rfl ⟨_, rfl, ⟨_, _, _, xs, rfl, ?_, ?_, ?_, ?_, q5, hpB.2⟩, hB10.trans (hon.below (B := w.heap.size) (by omega))⟩
  · exact own_mono (B := w.heap.size + 2) (own_keptS hO10 hkp (fun k hk => by omega)) (by omega)
  · exact own_mono (B := w.heap.size + 2) (own_keptS hL10 hkp (fun k hk => by omega)) (by omega)
  · exact hRC10.zs (fun k hk => hon.2.2 k (by omega))
  · exact own_mono (B := w.heap.size + 2) (own_keptS hb10 hkp (fun k hk => by omega)) (by omega)
end Go.Proofs.YtjacoodfhkaioabGreatDoor
namespace Go.Proofs.YtjacoodfhkaioabGreatDoor
open Go.ChangeShapes Go.WideShapes Go.ChangeAt Go.RowKit Go.Shelf
set_option linter.unusedSimpArgs false
set_option linter.unusedVariables false
set_option maxRecDepth 2000
mutual
/-- a copy: each part with what its kind uses -/
def cpT : Tm → Tm
  | .mk k neg d nm n l b => if k = 4 ∨ k = 6 then .mk k false [] noS 0 (cpL l) [] else prT (.mk k neg d nm n [] b)
def cpL : List Tm → List Tm
  | [] => []
  | t :: l => cpT t :: cpL l
end
theorem cpL_len : ∀ l : List Tm, (cpL l).length = l.length
  | [] => rfl
  | t :: l => by simp only [cpL, List.length_cons, cpL_len l]
theorem cpT_eq {T : Tm} {k : Int} {neg : Bool} {d : List Nat} {nm : ByteArray} {n : Int} {l : List Tm} {b : List Nat} (h : prT T = .mk k neg d nm n l b) : cpT T = .mk k neg d nm n (cpL l) b ∧ l = T.kids := by
  cases T with | mk k' neg' d' nm' n' l' b' =>
  unfold cpT Tm.kids
  by_cases h4 : k' = 4
  · subst h4
    simp only [prT] at h
    simp at h
    obtain ⟨rfl, rfl, rfl, rfl, rfl, rfl, rfl⟩ := h
    simp
  by_cases h6 : k' = 6
  · subst h6
    simp only [prT] at h
    simp at h
    obtain ⟨rfl, rfl, rfl, rfl, rfl, rfl, rfl⟩ := h
    simp
  simp only [h4, h6, or_self, if_false]
  have e : prT (.mk k' neg' d' nm' n' l' b') = prT (.mk k' neg' d' nm' n' [] b') := by simp only [prT, h4, h6, if_false]
  rw [e] at h
  have hl : l = [] := by
    unfold prT at h
    by_cases e0 : k' = 0
    · subst e0; simp at h; exact h.2.2.2.2.2.1
    by_cases e1 : k' = 1
    · subst e1; simp at h; exact h.2.2.2.2.2.1
    by_cases e2 : k' = 2
    · subst e2; simp at h; exact h.2.2.2.2.2.1
    by_cases e3 : k' = 3
    · subst e3; simp at h; exact h.2.2.2.2.2.1
    by_cases e7 : k' = 7
    · subst e7; simp at h; exact h.2.2.2.2.2.1
    simp only [e0, e1, e2, e3, h4, h6, e7, if_false] at h
    simp at h; exact h.2.2.2.2.2.1
  subst hl
  exact ⟨by rw [h]; simp [cpL], rfl⟩
/-- new memory that may be written -/
def Zw (S : Nat) (w : World) : Nat → Prop := fun k => S ≤ k ∧ ∀ j, w.frozen? ⟨k, j, none⟩ = false
theorem zw_of {S : Nat} {w : World} {k : Nat} {c : Array Value} {t : TypeId} (hS : S ≤ k) (h : w.heap[k]? = some (.cells c t (0, 0))) : Zw S w k := ⟨hS, fun j => by simp [World.frozen?, h]⟩
def RowTB (w : World) (g : Nat) (ys : List Value) : Prop := ∃ cur, w.heap[g]? = some (.cells cur 26 (0, 0)) ∧ cur.toList.take ys.length = ys
theorem RowTB.cell {w : World} {g : Nat} {ys : List Value} (h : RowTB w g ys) (j : Nat) (u : Value) (hj : ys[j]? = some u) : w.cell? ⟨g, j, none⟩ = some u := by
  obtain ⟨cur, hg, ht⟩ := h
  have hc : w.cell? ⟨g, j, none⟩ = cur[j]? := by simp [World.cell?, hg]
  rw [hc, ← Array.getElem?_toList]
  have hjl : j < ys.length := (List.getElem?_eq_some_iff.1 hj).1
  have := congrArg (·[j]?) ht
  simp only [List.getElem?_take] at this
  rw [if_pos hjl] at this
  rw [this, hj]
structure Pr where
  g : Nat
  c : Nat
  l : List Tm
def Pr.val (r : Pr) : Value := .slice (some ⟨r.g, 0, none⟩) r.l.length r.c
def Done (S : Nat) (w : World) (r : Pr) : Prop := ∃ ys, S ≤ r.g ∧ RC (Zw S w) w (cpL r.l) ys ∧ RowTB w r.g ys
theorem Done.tr {S : Nat} {w : World} {r : Pr} (h : Done S w r) : TR (Zw S w) w (cpL r.l) (some ⟨r.g, 0, none⟩) := by
  obtain ⟨ys, hS, h1, h2⟩ := h
  refine h1.tr (fun _ => ?_) (fun j u hj => ?_)
  · obtain ⟨cur, hg, _⟩ := h2
    exact zw_of hS hg
  · rw [addr_add, Nat.zero_add]; exact h2.cell j u hj
def Pend (S : Nat) (w : World) (r : Pr) : Prop := S ≤ r.g ∧ ∃ xs, RC (fun k => k < S) w r.l xs ∧ w.ownsRow S 26 7 r.val r.l.length xs
theorem own_blk {w : World} {B s : Nat} {e : TypeId} {g n c : Nat} {xs : List Value} (h : w.ownsRow B e s (.slice (some ⟨g, 0, none⟩) n c) n xs) : ∃ cur, w.heap[g]? = some (.cells cur e (0, 0)) ∧ B ≤ g ∧ cur.toList.take xs.length = xs ∧ n ≤ c := by
  obtain ⟨h1, ⟨h2, _⟩ | ⟨g', cap', cur, h2, hB, hg, hn, hm, hs, ht⟩⟩ := h
  · simp at h2
  · simp only [Value.slice.injEq, Option.some.injEq, Addr.mk.injEq, and_true, true_and] at h2
    obtain ⟨rfl, rfl⟩ := h2
    exact ⟨cur, hg, hB, by rw [h1]; exact ht, hn⟩
theorem Pend.blk {S : Nat} {w : World} {r : Pr} (h : Pend S w r) : ∃ cur, w.heap[r.g]? = some (.cells cur 26 (0, 0)) := by
  obtain ⟨_, xs, _, h2⟩ := h
  obtain ⟨cur, hg, _⟩ := own_blk h2
  exact ⟨cur, hg⟩
theorem Pend.kept {S : Nat} {M : Nat → Prop} {w w' : World} {r : Pr} (h : Pend S w r) (hk : Kept M w w') (hM : ∀ k, M k → S ≤ k) (hr : ¬ M r.g) (hS : S ≤ w.heap.size) : Pend S w' r := by
  obtain ⟨cur, hg⟩ := h.blk
  obtain ⟨h1, xs, h2, h3⟩ := h
  refine ⟨h1, xs, h2.zs (fun k hk' => hk.block k (by omega) (fun hm => by have := hM k hm; omega)), ?_⟩
  refine ⟨h3.1, ?_⟩
  rcases h3.2 with hn | ⟨g', cap', cur', hv, hB, hg', rest⟩
  · exact .inl hn
  · have : g' = r.g := by unfold Pr.val at hv; simp at hv; exact hv.1.symm
    subst this
    exact .inr ⟨r.g, cap', cur', hv, hB, (hk.block r.g (Array.getElem?_eq_some_iff.1 hg').1 hr).trans hg', rest⟩
def FpOk (S : Nat) (w : World) (Fp : Nat → Prop) (st : List Pr) : Prop := ∀ k, Fp k → S ≤ k ∧ (∃ c t, w.heap[k]? = some (.cells c t (0, 0)) ∧ t ≠ 23) ∧ ∀ r ∈ st, r.g ≠ k
def mu : List Pr → Nat
  | [] => 0
  | r :: st => (partsL r.l).length + 1 + mu st
theorem mu_len : ∀ st : List Pr, st.length ≤ mu st
  | [] => Nat.le_refl _
  | r :: st => by have := mu_len st; simp only [mu, List.length_cons]; omega
/-- what one's own cells say in another world -/
theorem own_ls {S B : Nat} {w w' : World} {e : TypeId} {o : Option Addr} {n c : Nat} {xs : List Value} (h : w.ownsRow B e 1 (.slice o n c) n xs) (hS : S ≤ B) (hk : ∀ g, o = some ⟨g, 0, none⟩ → w'.heap[g]? = w.heap[g]?) : Ls (Zw S w') o xs w' := by
  intro j u hj
  obtain ⟨h1, ⟨h2, h3⟩ | ⟨g', cap', cur, h2, hB, hg, hn, hm, hs, ht⟩⟩ := h
  · subst h3; simp at h1; subst h1; simp at hj
  · simp only [Value.slice.injEq, true_and] at h2
    obtain ⟨rfl, rfl⟩ := h2
    have hg' := (hk g' rfl).trans hg
    refine ⟨_, rfl, zw_of (show S ≤ g' by omega) hg', ?_⟩
    rw [addr_add, Nat.zero_add]
    have hc : w'.cell? ⟨g', j, none⟩ = cur[j]? := by simp [World.cell?, hg']
    rw [hc, ← Array.getElem?_toList]
    have hjl : j < xs.length := (List.getElem?_eq_some_iff.1 hj).1
    have := congrArg (·[j]?) ht
    simp only [List.getElem?_take, ← h1] at this
    rw [if_pos hjl] at this
    rw [this, hj]
/-- seven cells of a row stored -/
theorem own_put7 {w : World} {S g n c i : Nat} {pre rest : List Value} {a0 a1 a2 a3 a4 a5 a6 b0 b1 b2 b3 b4 b5 b6 : Value} (h : w.ownsRow S 26 7 (.slice (some ⟨g, 0, none⟩) n c) n (pre ++ (a0 :: a1 :: a2 :: a3 :: a4 :: a5 :: a6 :: rest))) (hp : pre.length = i) :
    (((((((w.setCell ⟨g, i, none⟩ b0).setCell ⟨g, i + 1, none⟩ b1).setCell ⟨g, i + 2, none⟩ b2).setCell ⟨g, i + 3, none⟩ b3).setCell ⟨g, i + 4, none⟩ b4).setCell ⟨g, i + 5, none⟩ b5).setCell ⟨g, i + 6, none⟩ b6).ownsRow S 26 7 (.slice (some ⟨g, 0, none⟩) n c) n (pre ++ (b0 :: b1 :: b2 :: b3 :: b4 :: b5 :: b6 :: rest)) := by
  subst hp
  have h0 := (h.stored pre.length b0).1
  have h1 := (h0.stored (pre.length + 1) b1).1
  have h2 := (h1.stored (pre.length + 2) b2).1
  have h3 := (h2.stored (pre.length + 3) b3).1
  have h4 := (h3.stored (pre.length + 4) b4).1
  have h5 := (h4.stored (pre.length + 5) b5).1
  have h6 := (h5.stored (pre.length + 6) b6).1
  simpa [List.set_append_right] using h6
/-- if all that waits is done, and the row under way too, the whole is -/
def Wi (S : Nat) (w : World) (Fp : Nat → Prop) (st : List Pr) (g : Nat) (pre : List Value) (l : List Tm) (G : World → Prop) : Prop :=
  ∀ w', (∀ k, Fp k → w'.heap[k]? = w.heap[k]?) → (∀ r ∈ st, Done S w' r) → ∀ ys, RC (Zw S w') w' (cpL l) ys → RowTB w' g (pre ++ ys) → G w'
def Wo (S : Nat) (w : World) (Fp : Nat → Prop) (st : List Pr) (G : World → Prop) : Prop :=
  ∀ w', (∀ k, Fp k → w'.heap[k]? = w.heap[k]?) → (∀ r ∈ st, Done S w' r) → G w'
theorem Wi.move {S : Nat} {w w2 : World} {Fp : Nat → Prop} {st : List Pr} {g : Nat} {pre : List Value} {l : List Tm} {G : World → Prop} (h : Wi S w Fp st g pre l G) (hF : ∀ k, Fp k → w2.heap[k]? = w.heap[k]?) : Wi S w2 Fp st g pre l G :=
  fun w' h1 h2 ys h3 h4 => h w' (fun k hk => (h1 k hk).trans (hF k hk)) h2 ys h3 h4
theorem Wo.move {S : Nat} {w w2 : World} {Fp : Nat → Prop} {st : List Pr} {G : World → Prop} (h : Wo S w Fp st G) (hF : ∀ k, Fp k → w2.heap[k]? = w.heap[k]?) : Wo S w2 Fp st G :=
  fun w' h1 h2 => h w' (fun k hk => (h1 k hk).trans (hF k hk)) h2
theorem Wo.pop {S : Nat} {w : World} {Fp : Nat → Prop} {r : Pr} {st : List Pr} {G : World → Prop} (h : Wo S w Fp (r :: st) G) (hS : S ≤ r.g) : Wi S w Fp st r.g [] r.l G :=
  fun w' h1 h2 ys h3 h4 => h w' h1 (fun q hq => by
    rcases List.mem_cons.1 hq with rfl | hq
    · exact ⟨ys, hS, h3, h4⟩
    · exact h2 q hq)
theorem Wi.fin {S : Nat} {w : World} {Fp : Nat → Prop} {st : List Pr} {g : Nat} {pre : List Value} {G : World → Prop} (h : Wi S w Fp st g pre [] G) (hr : RowTB w g pre) : Wo S w (fun k => Fp k ∨ k = g) st G :=
  fun w' h1 h2 => h w' (fun k hk => h1 k (.inl hk)) h2 [] rfl (by
    obtain ⟨cur, hg, ht⟩ := hr
    rw [List.append_nil]
    exact ⟨cur, (h1 g (.inr rfl)).trans hg, ht⟩)
def isAt (o : Option Addr) (k : Nat) : Prop := o = some ⟨k, 0, none⟩
theorem wi_step {S B : Nat} {w w2 w3 : World} {Fp : Nat → Prop} {st : List Pr} {g : Nat} {pre : List Value} {t : Tm} {l' : List Tm} {G : World → Prop} {k : Int} {neg : Bool} {nm : ByteArray} {n : Int} {oD oL oB : Option Addr} {lD cD lL cL lB cB : Nat}
    (hW : Wi S w Fp st g pre (t :: l') G) (hB : S ≤ B) (hDt : Dt S B w2 (prT t) (tmV k neg (.slice oD lD cD) nm n (.slice oL lL cL) (.slice oB lB cB)))
    (hF : ∀ k, Fp k → w3.heap[k]? = w.heap[k]?) (hN : ∀ k, B ≤ k → k < w2.heap.size → w3.heap[k]? = w2.heap[k]?) :
    lL = t.kids.length ∧ (t.kids = [] → Wi S w3 (fun k => Fp k ∨ isAt oD k ∨ isAt oB k) st g (pre ++ [.int .i64 k, .bool neg, .slice oD lD cD, .string nm, .int .i64 n, .slice oL lL cL, .slice oB lB cB]) l' G) ∧
    (t.kids ≠ [] → ∃ gL, oL = some ⟨gL, 0, none⟩ ∧ B ≤ gL ∧ (∃ xs, RC (fun k => k < S) w2 t.kids xs ∧ w2.ownsRow B 26 7 (.slice oL lL cL) t.kids.length xs) ∧ Wi S w3 (fun k => Fp k ∨ isAt oD k ∨ isAt oB k) (⟨gL, cL, t.kids⟩ :: st) g (pre ++ [.int .i64 k, .bool neg, .slice oD lD cD, .string nm, .int .i64 n, .slice oL lL cL, .slice oB lB cB]) l' G) := by
  obtain ⟨P, hP⟩ : ∃ P, prT t = P := ⟨_, rfl⟩
  rw [hP] at hDt
  cases P with | mk pk pneg pd pnm pn pl pb =>
  obtain ⟨hc, hkk⟩ := cpT_eq hP
  unfold Dt at hDt
  obtain ⟨D, L, Bv, xs, e, hD, hL, hRC, hBv, hLm, hLb⟩ := hDt
  simp only [Value.agg.injEq, Array.mk.injEq, List.cons.injEq, Value.int.injEq, Value.bool.injEq, Value.string.injEq, and_true, true_and] at e
  obtain ⟨rfl, rfl, rfl, rfl, rfl, rfl, rfl⟩ := e
  obtain ⟨_, _, e1, hcD⟩ := own_sl hD
  obtain ⟨_, _, e2, hcL⟩ := own_sl hL
  obtain ⟨_, _, e3, hcB⟩ := own_sl hBv
  simp only [Value.slice.injEq] at e1 e2 e3
  obtain ⟨rfl, rfl, rfl⟩ := e1
  obtain ⟨rfl, rfl, rfl⟩ := e2
  obtain ⟨rfl, rfl, rfl⟩ := e3
  subst hkk
  have fin : ∀ w', (∀ k, Fp k ∨ isAt oD k ∨ isAt oB k → w'.heap[k]? = w3.heap[k]?) → TR (Zw S w') w' (cpL t.kids) oL → TV (Zw S w') w' (cpT t) (tmV k neg (.slice oD pd.length cD) nm n (.slice oL t.kids.length cL) (.slice oB pb.length cB)) := by
    intro w' hFp hTR
    rw [hc]
    unfold TV
    refine ⟨oD, cD, oL, cL, oB, cB, by rw [cpL_len], own_ls hD hB (fun g' hg' => ?_), hcD, hLm, ⟨own_ls hBv hB (fun g' hg' => ?_), hLb⟩, hcB, by rw [cpL_len]; exact hcL, hTR⟩
    · subst hg'
      obtain ⟨cur, hq, hBg, _⟩ := own_blk hD
      exact (hFp g' (.inr (.inl rfl))).trans (hN g' hBg (Array.getElem?_eq_some_iff.1 hq).1)
    · subst hg'
      obtain ⟨cur, hq, hBg, _⟩ := own_blk hBv
      exact (hFp g' (.inr (.inr rfl))).trans (hN g' hBg (Array.getElem?_eq_some_iff.1 hq).1)
  refine ⟨rfl, fun h0 => ?_, fun h0 => ?_⟩
  · intro w' hFp hDone ys hR hRow
    refine hW w' (fun k hk => (hFp k (.inl hk)).trans (hF k hk)) hDone _ ⟨_, _, _, _, _, _, _, _, _, _, _, _, _, ys, fin w' hFp (by rw [h0]; unfold cpL TR; trivial), rfl, hR⟩ ?_
    simpa using hRow
  · obtain ⟨h1, ⟨h2, h3⟩ | ⟨gL, cap', cur, h2, hBg, hg, rest⟩⟩ := id hL
    · exact absurd (List.eq_nil_of_length_eq_zero h3) h0
    · simp only [Value.slice.injEq, true_and] at h2
      obtain ⟨rfl, rfl⟩ := h2
      refine ⟨gL, rfl, hBg, ⟨xs, hRC, hL⟩, ?_⟩
      intro w' hFp hDone ys hR hRow
      refine hW w' (fun k hk => (hFp k (.inl hk)).trans (hF k hk)) (fun r hr => hDone r (List.mem_cons_of_mem _ hr)) _ ⟨_, _, _, _, _, _, _, _, _, _, _, _, _, ys, fin w' hFp (hDone ⟨gL, cL, t.kids⟩ (by simp)).tr, rfl, hR⟩ ?_
      simpa using hRow
end Go.Proofs.YtjacoodfhkaioabGreatDoor
namespace Go.Proofs.YtjacoodfhkaioabGreatDoor
open Go.ChangeShapes Go.WideShapes Go.ChangeAt Go.RowKit Go.Shelf
set_option linter.unusedSimpArgs false
set_option linter.unusedVariables false
set_option maxRecDepth 2000
theorem rowB_of {w : World} {S g n c : Nat} {xs : List Value} (h : w.ownsRow S 26 7 (.slice (some ⟨g, 0, none⟩) n c) n xs) : RowTB w g xs := by
  obtain ⟨cur, hg, _, ht, _⟩ := own_blk h
  exact ⟨cur, hg, ht⟩
theorem partsL_len : ∀ l : List Tm, l.length ≤ (partsL l).length
  | [] => Nat.le_refl _
  | t :: l => by
    have := partsL_len l
    simp only [partsL, parts_eq, List.length_cons, List.length_append]; omega
theorem own_cells7 {w : World} {S g n c i : Nat} {pre rest : List Value} {a0 a1 a2 a3 a4 a5 a6 : Value} (h : w.ownsRow S 26 7 (.slice (some ⟨g, 0, none⟩) n c) n (pre ++ (a0 :: a1 :: a2 :: a3 :: a4 :: a5 :: a6 :: rest))) (hp : pre.length = i) :
    w.cell? ⟨g, i, none⟩ = some a0 ∧ w.cell? ⟨g, i + 1, none⟩ = some a1 ∧ w.cell? ⟨g, i + 2, none⟩ = some a2 ∧ w.cell? ⟨g, i + 3, none⟩ = some a3 ∧ w.cell? ⟨g, i + 4, none⟩ = some a4 ∧ w.cell? ⟨g, i + 5, none⟩ = some a5 ∧ w.cell? ⟨g, i + 6, none⟩ = some a6 := by
  subst hp
  have hr := rowB_of h
  have q : ∀ (j : Nat) (u : Value), (a0 :: a1 :: a2 :: a3 :: a4 :: a5 :: a6 :: rest)[j]? = some u → w.cell? ⟨g, pre.length + j, none⟩ = some u := fun j u hj => hr.cell _ _ (by rw [List.getElem?_append_right (by omega)]; simpa using hj)
  exact ⟨q 0 _ rfl, q 1 _ rfl, q 2 _ rfl, q 3 _ rfl, q 4 _ rfl, q 5 _ rfl, q 6 _ rfl⟩
theorem own_fr {w : World} {S s g n c : Nat} {e : TypeId} {xs : List Value} (h : w.ownsRow S e s (.slice (some ⟨g, 0, none⟩) n c) n xs) (j : Nat) : w.frozen? ⟨g, j, none⟩ = false := by
  obtain ⟨cur, hg, _⟩ := own_blk h
  simp [World.frozen?, hg]
/-- between two rows -/
structure CI (S : Nat) (w : World) (Fp : Nat → Prop) (st : List Pr) (G : World → Prop) : Prop where
  nd : (st.map Pr.g).Nodup
  pend : ∀ r ∈ st, Pend S w r
  fp : FpOk S w Fp st
  wo : Wo S w Fp st G
  ok : ∀ r ∈ st, ∀ p ∈ partsL r.l, p.ok1
/-- within a row: i of its terms are done -/
structure CJ (S : Nat) (w : World) (Fp : Nat → Prop) (st : List Pr) (g c : Nat) (l : List Tm) (i : Nat) (pre xs : List Value) (G : World → Prop) : Prop where
  nd : (g :: st.map Pr.g).Nodup
  pend : ∀ r ∈ st, Pend S w r
  fp : FpOk S w Fp st
  fpg : ¬ Fp g
  wi : Wi S w Fp st g pre (l.drop i) G
  ok : ∀ r ∈ st, ∀ p ∈ partsL r.l, p.ok1
  okl : ∀ p ∈ partsL (l.drop i), p.ok1
  pl : pre.length = i * 7
  rc : RC (fun k => k < S) w (l.drop i) xs
  own : w.ownsRow S 26 7 (.slice (some ⟨g, 0, none⟩) l.length c) l.length (pre ++ xs)
  gS : S ≤ g
theorem CI.kept {S : Nat} {w w' : World} {Fp : Nat → Prop} {st : List Pr} {G : World → Prop} (h : CI S w Fp st G) {M : Nat → Prop} (hk : Kept M w w') (hM : ∀ k, M k → S ≤ k) (hr : ∀ r ∈ st, ¬ M r.g) (hf : ∀ k, Fp k → ¬ M k) (hS : S ≤ w.heap.size) : CI S w' Fp st G := by
  have hFp : ∀ k, Fp k → w'.heap[k]? = w.heap[k]? := fun k hk' => by
    obtain ⟨_, ⟨c, t, hc, _⟩, _⟩ := h.fp k hk'
    exact hk.block k (Array.getElem?_eq_some_iff.1 hc).1 (hf k hk')
  refine ⟨h.nd, fun r hr' => (h.pend r hr').kept hk hM (hr r hr') hS, fun k hk' => ?_, h.wo.move hFp, h.ok⟩
  obtain ⟨h1, ⟨c, t, hc, ht⟩, h3⟩ := h.fp k hk'
  exact ⟨h1, ⟨c, t, (hFp k hk').trans hc, ht⟩, h3⟩
theorem CJ.kept {S : Nat} {w w' : World} {Fp : Nat → Prop} {st : List Pr} {g c : Nat} {l : List Tm} {i : Nat} {pre xs : List Value} {G : World → Prop} (h : CJ S w Fp st g c l i pre xs G) {M : Nat → Prop} (hk : Kept M w w') (hM : ∀ k, M k → S ≤ k) (hr : ∀ r ∈ st, ¬ M r.g) (hf : ∀ k, Fp k → ¬ M k) (hg : ¬ M g) (hS : S ≤ w.heap.size) : CJ S w' Fp st g c l i pre xs G := by
  have hFp : ∀ k, Fp k → w'.heap[k]? = w.heap[k]? := fun k hk' => by
    obtain ⟨_, ⟨c, t, hc, _⟩, _⟩ := h.fp k hk'
    exact hk.block k (Array.getElem?_eq_some_iff.1 hc).1 (hf k hk')
  refine ⟨h.nd, fun r hr' => (h.pend r hr').kept hk hM (hr r hr') hS, fun k hk' => ?_, h.fpg, h.wi.move hFp, h.ok, h.okl, h.pl, h.rc.zs (fun k hk' => hk.block k (by omega) (fun hm => by have := hM k hm; omega)), ?_, h.gS⟩
  · obtain ⟨h1, ⟨c, t, hc, ht⟩, h3⟩ := h.fp k hk'
    exact ⟨h1, ⟨c, t, (hFp k hk').trans hc, ht⟩, h3⟩
  · have ho := h.own
    refine ⟨ho.1, ?_⟩
    rcases ho.2 with hn | ⟨g', cap', cur', hv, hB, hg', rest⟩
    · exact .inl hn
    · have : g' = g := by simp at hv; exact hv.1.symm
      subst this
      exact .inr ⟨g', cap', cur', hv, hB, (hk.block g' (Array.getElem?_eq_some_iff.1 hg').1 hg).trans hg', rest⟩
theorem own_same {w w' : World} {B s : Nat} {e : TypeId} {g n c : Nat} {xs : List Value} (h : w.ownsRow B e s (.slice (some ⟨g, 0, none⟩) n c) n xs) (hb : w'.heap[g]? = w.heap[g]?) : w'.ownsRow B e s (.slice (some ⟨g, 0, none⟩) n c) n xs := by
  obtain ⟨h1, ⟨h2, _⟩ | ⟨g', cap', cur, h2, hB, hg, rest⟩⟩ := h
  · simp at h2
  · have : g' = g := by simp at h2; exact h2.1.symm
    subst this
    exact ⟨h1, .inr ⟨g', cap', cur, h2, hB, hb.trans hg, rest⟩⟩
theorem isAt_blk {w : World} {B s : Nat} {e : TypeId} {o : Option Addr} {n c k : Nat} {xs : List Value} (h : w.ownsRow B e s (.slice o n c) n xs) (hk : isAt o k) : B ≤ k ∧ ∃ cur, w.heap[k]? = some (.cells cur e (0, 0)) := by
  have hk' : o = some ⟨k, 0, none⟩ := hk
  subst hk'
  obtain ⟨cur, hg, hB, _⟩ := own_blk h
  exact ⟨hB, cur, hg⟩
theorem cj_step {S B : Nat} {w wF : World} {Fp : Nat → Prop} {st : List Pr} {g c i : Nat} {l : List Tm} {t : Tm} {pre ys : List Value} {a0 a1 a2 a3 a4 a5 a6 : Value} {G : World → Prop} {k : Int} {neg : Bool} {nm : ByteArray} {n : Int} {oD oL oB : Option Addr} {lD cD lL cL lB cB : Nat} {M : Nat → Prop}
    (hJ : CJ S w Fp st g c l i pre (a0 :: a1 :: a2 :: a3 :: a4 :: a5 :: a6 :: ys) G) (hd : l.drop i = t :: l.drop (i + 1)) (hDt : Dt S B w (prT t) (tmV k neg (.slice oD lD cD) nm n (.slice oL lL cL) (.slice oB lB cB))) (hSB : S ≤ B) (hgB : g < B) (hrB : ∀ r ∈ st, r.g < B) (hfB : ∀ k, Fp k → k < B)
    (hk : Kept M w wF) (hM : ∀ k, M k → S ≤ k ∧ k < B) (hMr : ∀ r ∈ st, ¬ M r.g) (hMf : ∀ k, Fp k → ¬ M k) (hS : S ≤ w.heap.size)
    (hown : wF.ownsRow S 26 7 (.slice (some ⟨g, 0, none⟩) l.length c) l.length ((pre ++ [.int .i64 k, .bool neg, .slice oD lD cD, .string nm, .int .i64 n, .slice oL lL cL, .slice oB lB cB]) ++ ys)) :
    lL = t.kids.length ∧ (t.kids = [] → CJ S wF (fun k => Fp k ∨ isAt oD k ∨ isAt oB k) st g c l (i + 1) (pre ++ [.int .i64 k, .bool neg, .slice oD lD cD, .string nm, .int .i64 n, .slice oL lL cL, .slice oB lB cB]) ys G) ∧
    (t.kids ≠ [] → ∃ gL, oL = some ⟨gL, 0, none⟩ ∧ CJ S wF (fun k => Fp k ∨ isAt oD k ∨ isAt oB k) (⟨gL, cL, t.kids⟩ :: st) g c l (i + 1) (pre ++ [.int .i64 k, .bool neg, .slice oD lD cD, .string nm, .int .i64 n, .slice oL lL cL, .slice oB lB cB]) ys G) := by
  have hF : ∀ k, Fp k → wF.heap[k]? = w.heap[k]? := fun k hk' => by
    obtain ⟨_, ⟨c, t, hc, _⟩, _⟩ := hJ.fp k hk'
    exact hk.block k (Array.getElem?_eq_some_iff.1 hc).1 (hMf k hk')
  have hN : ∀ k, B ≤ k → k < w.heap.size → wF.heap[k]? = w.heap[k]? := fun k h1 h2 => hk.block k h2 (fun hm => by have := (hM k hm).2; omega)
  have hwi := hJ.wi
  rw [hd] at hwi
  obtain ⟨s1, s2, s3⟩ := wi_step (w3 := wF) hwi hSB hDt hF hN
  have hDD : (∀ k, isAt oD k → B ≤ k ∧ ∃ cur, w.heap[k]? = some (.cells cur 104 (0, 0))) ∧ (∀ k, isAt oB k → B ≤ k ∧ ∃ cur, w.heap[k]? = some (.cells cur 5 (0, 0))) := by
    cases hP : prT t with | mk pk pneg pd pnm pn pl pb =>
    rw [hP] at hDt
    unfold Dt at hDt
    obtain ⟨D, L, Bv, xs, e, hD, hL, hRC, hBv, hLm⟩ := hDt
    simp only [Value.agg.injEq, Array.mk.injEq, List.cons.injEq, Value.int.injEq, Value.bool.injEq, Value.string.injEq, and_true, true_and] at e
    obtain ⟨rfl, rfl, rfl, rfl, rfl, rfl, rfl⟩ := e
    obtain ⟨_, _, e1, _⟩ := own_sl hD
    obtain ⟨_, _, e3, _⟩ := own_sl hBv
    simp only [Value.slice.injEq] at e1 e3
    obtain ⟨rfl, rfl, rfl⟩ := e1
    obtain ⟨rfl, rfl, rfl⟩ := e3
    exact ⟨fun k hk => isAt_blk hD hk, fun k hk => isAt_blk hBv hk⟩
  have hrc := hJ.rc
  rw [hd] at hrc
  obtain ⟨_, _, _, _, _, _, _, _, _, _, _, _, _, zs, _, ez, hRCz⟩ := hrc
  simp only [List.cons.injEq] at ez
  obtain ⟨_, _, _, _, _, _, _, rfl⟩ := ez
  have hRF : RC (fun k => k < S) wF (l.drop (i + 1)) ys := hRCz.zs (fun k hk' => hk.block k (by omega) (fun hm => by have := (hM k hm).1; omega))
  have hpend : ∀ r ∈ st, Pend S wF r := fun r hr => (hJ.pend r hr).kept hk (fun k hm => (hM k hm).1) (hMr r hr) hS
  have hpl : (pre ++ [.int .i64 k, .bool neg, .slice oD lD cD, .string nm, .int .i64 n, .slice oL lL cL, .slice oB lB cB] : List Value).length = (i + 1) * 7 := by
    rw [List.length_append, hJ.pl]; simp only [List.length_cons, List.length_nil]; omega
  have hokl := hJ.okl
  rw [hd] at hokl
  have hok2 : ∀ p ∈ partsL (l.drop (i + 1)), p.ok1 := fun p hp => hokl p (by simp [partsL, hp])
  have hfp : ∀ k, (Fp k ∨ isAt oD k ∨ isAt oB k) → S ≤ k ∧ (∃ c t, wF.heap[k]? = some (.cells c t (0, 0)) ∧ t ≠ 23 ∧ (¬ Fp k → t ≠ 26)) ∧ ∀ r ∈ st, r.g ≠ k := by
    intro k hk'
    rcases hk' with h | h | h
    · obtain ⟨h1, ⟨c, t, hc, ht⟩, h3⟩ := hJ.fp k h
      exact ⟨h1, ⟨c, t, (hF k h).trans hc, ht, fun hn => absurd h hn⟩, h3⟩
    · obtain ⟨h1, cur, hc⟩ := hDD.1 k h
      exact ⟨by omega, ⟨cur, 104, (hN k h1 (Array.getElem?_eq_some_iff.1 hc).1).trans hc, by decide, fun _ => by decide⟩, fun r hr => by have := hrB r hr; omega⟩
    · obtain ⟨h1, cur, hc⟩ := hDD.2 k h
      exact ⟨by omega, ⟨cur, 5, (hN k h1 (Array.getElem?_eq_some_iff.1 hc).1).trans hc, by decide, fun _ => by decide⟩, fun r hr => by have := hrB r hr; omega⟩
  have hfg : ¬ (Fp g ∨ isAt oD g ∨ isAt oB g) := by
    rintro (h | h | h)
    · exact hJ.fpg h
    · have := (hDD.1 g h).1; omega
    · have := (hDD.2 g h).1; omega
  refine ⟨s1, fun h0 => ?_, fun h0 => ?_⟩
  · refine ⟨hJ.nd, hpend, fun k hk' => ?_, hfg, s2 h0, hJ.ok, hok2, hpl, hRF, hown, hJ.gS⟩
    obtain ⟨h1, ⟨c, t, hc, ht, _⟩, h3⟩ := hfp k hk'
    exact ⟨h1, ⟨c, t, hc, ht⟩, h3⟩
  · obtain ⟨gL, hoL, hBL, ⟨xs, hRx, hOx⟩, hW⟩ := s3 h0
    subst hoL
    rw [s1] at hOx
    obtain ⟨cur, hgL, _, _, _⟩ := own_blk hOx
    refine ⟨gL, rfl, ?_, fun r hr => ?_, fun k hk' => ?_, hfg, hW, fun r hr => ?_, hok2, hpl, hRF, hown, hJ.gS⟩
    · have hnd := hJ.nd
      simp only [List.nodup_cons, List.map_cons, List.mem_cons, not_or] at hnd ⊢
      refine ⟨⟨by omega, hnd.1⟩, ?_, hnd.2⟩
      intro hm
      obtain ⟨r, hr, e⟩ := List.mem_map.1 hm
      have := hrB r hr
      omega
    · rcases List.mem_cons.1 hr with rfl | hr
      · refine Pend.kept (w := w) ⟨by show S ≤ gL; omega, xs, hRx, ?_⟩ hk (fun k hm => (hM k hm).1) (fun hm => by have := (hM _ hm).2; simp only at this; omega) hS
        exact own_mono hOx hSB
      · exact hpend r hr
    · obtain ⟨h1, ⟨c, t', hc, ht, ht2⟩, h3⟩ := hfp k hk'
      refine ⟨h1, ⟨c, t', hc, ht⟩, fun r hr => ?_⟩
      rcases List.mem_cons.1 hr with rfl | hr
      · intro e
        simp only at e
        subst e
        have hn : ¬ Fp gL := fun hf => by have := hfB gL hf; omega
        have hc2 := (hN gL hBL (Array.getElem?_eq_some_iff.1 hgL).1).trans hgL
        rw [hc] at hc2
        simp only [Option.some.injEq, Obj.cells.injEq] at hc2
        exact ht2 hn hc2.2.1
      · exact h3 r hr
    · rcases List.mem_cons.1 hr with rfl | hr
      · intro p hp
        exact hokl p (by simp only [partsL, parts_eq]; simp only at hp; simp [hp])
      · exact hJ.ok r hr
theorem Dt.form {S B : Nat} {w : World} {T : Tm} {v : Value} (h : Dt S B w T v) : ∃ k neg od ld cd nm n ol ll cl ob lb cb, v = tmV k neg (.slice od ld cd) nm n (.slice ol ll cl) (.slice ob lb cb) := by
  cases T with | mk k neg d nm n l b =>
  unfold Dt at h
  obtain ⟨D, L, Bv, xs, rfl, hD, hL, _, hB, _⟩ := h
  obtain ⟨_, _, rfl, _⟩ := own_sl hD
  obtain ⟨_, _, rfl, _⟩ := own_sl hL
  obtain ⟨_, _, rfl, _⟩ := own_sl hB
  exact ⟨_, _, _, _, _, _, _, _, _, _, _, _, _, rfl⟩
theorem only_put7 (w : World) (g i : Nat) (b0 b1 b2 b3 b4 b5 b6 : Value) : Only g w (((((((w.setCell ⟨g, i, none⟩ b0).setCell ⟨g, i + 1, none⟩ b1).setCell ⟨g, i + 2, none⟩ b2).setCell ⟨g, i + 3, none⟩ b3).setCell ⟨g, i + 4, none⟩ b4).setCell ⟨g, i + 5, none⟩ b5).setCell ⟨g, i + 6, none⟩ b6) :=
  ((((((only_set w g i b0).setCell _ b1).setCell _ b2).setCell _ b3).setCell _ b4).setCell _ b5).setCell _ b6
/-- the waiting rows lie in a block of another kind -/
theorem wait_ne {w : World} {S : Nat} {v : Value} {m : Nat} {xs : List Value} (h : w.ownsRow S 23 1 v m xs) {k : Nat} {c : Array Value} {t : TypeId} (hk : w.heap[k]? = some (.cells c t (0, 0))) (ht : t ≠ 23) : ¬ v.ownBlock = some k := by
  intro e
  obtain ⟨h1, ⟨h2, h3⟩ | ⟨g', cap', cur, h2, hB, hg, rest⟩⟩ := h
  · subst h2; simp [Value.ownBlock] at e
  · subst h2
    simp [Value.ownBlock] at e
    subst e
    rw [hg] at hk
    simp only [Option.some.injEq, Obj.cells.injEq] at hk
    exact ht hk.2.1.symm
end Go.Proofs.YtjacoodfhkaioabGreatDoor
namespace Go.Proofs.YtjacoodfhkaioabGreatDoor
open Go.ChangeShapes Go.WideShapes Go.ChangeAt Go.RowKit Go.Shelf
set_option linter.unusedSimpArgs false
set_option linter.unusedVariables false
set_option maxRecDepth 2000
set_option maxHeartbeats 4000000 in
set_option maxRecDepth 4000 in
theorem copies_w (ls : List Tm) (o : Option Addr) (c : Nat) (w : World) (hne : ls ≠ []) (hlen : (partsL ls).length ≤ 500000) (hl : ls.length ≤ 500000) (hok : ∀ p ∈ partsL ls, p.ok1) (hT : TR (Low w) w ls o) :
    Calls Tryz.prog 102 #[.slice o ls.length c] w fun e w' => ∃ g' c', e = .returned (.slice (some ⟨g', 0, none⟩) ls.length c') ∧ TR (Zw w.heap.size w') w' (cpL ls) (some ⟨g', 0, none⟩) ∧ ls.length ≤ c' ∧ Below w.heap.size w w' := by
  obtain ⟨xs, hRC, hLc⟩ := hT.rc
  obtain ⟨iT, hT1, hT2, hT3, hT4⟩ := info_parts infoT
  obtain ⟨i0, hi, hyy0, hyy1, hyy2⟩ := info_parts infoR
  obtain ⟨vA, w1, hr1, hA1, b1⟩ := ap_run 23 26 iT _ 7 112 Tryz.underlying23 hT1 hT2 hT3 hT4 rfl (by decide) w o c ls.length xs hRC.len hRC.one (by omega) (by omega) hLc
  have hRC1 := hRC.zs (fun k hk => b1.block k hk)
  obtain ⟨oA, cA, rfl, hcA⟩ := own_sl hA1
  obtain ⟨gA, rfl⟩ : ∃ gA, oA = some ⟨gA, 0, none⟩ := by
    obtain ⟨h1, ⟨h2, h3⟩ | ⟨g', cap', cur, h2, _⟩⟩ := hA1
    · exact absurd (List.eq_nil_of_length_eq_zero h3) hne
    · simp only [Value.slice.injEq, true_and] at h2
      exact ⟨g', h2.1⟩
  clear hT hRC hLc
  have hxs := hid (show ∃ x, x = xs from ⟨_, rfl⟩)
  go_enter Tryz.func102, Tryz.ntmps102
  go_wp2_with (at_builtin; refine wpList_append_run rfl _ _ 23 rfl _ _ _ _ rfl rfl hr1 ?_)
  clear hr1
  obtain ⟨G, hG⟩ : ∃ G : World → Prop, G = fun w' => TR (Zw w.heap.size w') w' (cpL ls) (some ⟨gA, 0, none⟩) := ⟨_, rfl⟩
  have hCI : CI w.heap.size w1 (fun _ => False) [⟨gA, cA, ls⟩] G := by
    obtain ⟨cur, hgA, hBA, _, _⟩ := own_blk hA1
    refine ⟨by simp, fun r hr => ?_, fun k hk => hk.elim, fun w' _ hd => ?_, fun r hr => ?_⟩
    · simp at hr; subst hr
      exact ⟨hBA, xs, hRC1, hA1⟩
    · rw [hG]; exact (hd ⟨gA, cA, ls⟩ (by simp)).tr
    · simp at hr; subst hr; exact hok
  have hHG := hid hG
  clear hG
  have hW0 := World.ownsRow_lit (e := 23) (size := 1) (base := w.heap.size) w1 #[.slice (some ⟨gA, 0, none⟩) ls.length cA] 1 b1.size (by simp [maxLen]) (by simp)
  have hCI1 := hCI.kept (Kept.of_alloc (F := fun _ => False) w1 (.cells #[.slice (some ⟨gA, 0, none⟩) ls.length cA] 23)) (fun _ h => h.elim) (fun _ _ => id) (fun _ _ => id) b1.size
  have hB1 := b1.alloc b1.size (.cells #[.slice (some ⟨gA, 0, none⟩) ls.length cA] 23)
  clear hCI hA1 hRC1 hxs hok
  generalize (w1.alloc (.cells #[.slice (some ⟨gA, 0, none⟩) ls.length cA] 23)) = W0 at *
  go_loopg [4] (mu [⟨gA, cA, ls⟩]) (fun t v4 wr => ∃ (st : List Pr) (Fp : Nat → Prop), t = mu st ∧ CI w.heap.size wr Fp st G ∧ mu st ≤ 500001 ∧ wr.ownsRow w.heap.size 23 1 v4 st.length (st.map Pr.val).reverse ∧ Below w.heap.size w wr)
  case atStart => exact ⟨[⟨gA, cA, ls⟩], _, rfl, hCI1, by simp only [mu]; omega, by simpa [Pr.val] using hW0, hB1⟩
  case round =>
    obtain ⟨st, Fp, rfl, hI, hmu, hOw, hBw⟩ := hrel
    clear hCI1 hW0 hB1
    cases st with
    | nil =>
      obtain ⟨o5, c5, rfl, _⟩ := own_shape hOw
      have hfin : G wr := hI.wo wr (fun _ _ => rfl) (fun r hr => by simp at hr)
      have hHf := hid hfin
      clear hOw hI hfin
      go_wp2
      go_ret
      have := hHf.out
      rw [hHG.out] at this
      exact ⟨gA, cA, rfl, this, hcA, hBw⟩
    | cons r st =>
      obtain ⟨g, rc, l⟩ := r
      obtain ⟨o5, c5, rfl, ho5⟩ := own_shape hOw
      obtain ⟨g5, rfl⟩ := ho5 (by simp)
      clear ho5
      simp only [List.map_cons, List.reverse_cons, List.length_cons] at hOw
      obtain ⟨hOw', hcell, hBg, hgl, hc5⟩ := own_take1 hOw
      clear hOw
      unfold Pr.val at hcell
      simp only at hcell
      obtain ⟨hgS, x0, hRC0, hOR0⟩ := hI.pend ⟨g, rc, l⟩ (by simp)
      have hJ : CJ w.heap.size wr Fp st g rc l 0 [] x0 G := by
        refine ⟨hI.nd, fun r hr => hI.pend r (List.mem_cons_of_mem _ hr), fun k hk => ?_, fun hf => ?_, hI.wo.pop hgS, fun r hr => hI.ok r (List.mem_cons_of_mem _ hr), hI.ok ⟨g, rc, l⟩ (by simp), by simp, hRC0, hOR0, hgS⟩
        · obtain ⟨h1, h2, h3⟩ := hI.fp k hk
          exact ⟨h1, h2, fun r hr => h3 r (List.mem_cons_of_mem _ hr)⟩
        · exact (hI.fp g hf).2.2 ⟨g, rc, l⟩ (by simp) rfl
      clear hRC0 hOR0 hI
      have hmu' : (partsL l).length + 1 + mu st ≤ 500001 := by simpa [mu] using hmu
      have hsl : st.length ≤ 500001 := by have := mu_len st; omega
      have hll : l.length ≤ 500001 := by have := partsL_len l; omega
      clear hmu
      go_wp2_with fail
      have hMb : Hid (∃ M, M = (partsL l).length + mu st) := hid ⟨_, rfl⟩
      obtain ⟨M, hM⟩ : ∃ M, M = (partsL l).length + mu st := ⟨_, rfl⟩
      have hHM := hid hM
      clear hM hMb
      have hMl : M ≤ 500000 := by have := hHM.out; omega
      clear hmu'
      go_loopg [4, 28] l.length (fun t v4 iv wx => ∃ (i : Nat) (st' : List Pr) (Fp' : Nat → Prop) (pre xs : List Value), t + i = l.length ∧ iv = .int .i64 (i : Int) ∧ CJ w.heap.size wx Fp' st' g rc l i pre xs G ∧ (partsL (l.drop i)).length + mu st' ≤ M ∧ wx.ownsRow w.heap.size 23 1 v4 st'.length (st'.map Pr.val).reverse ∧ Below w.heap.size w wx)
      case atStart => exact ⟨0, st, Fp, [], x0, by omega, rfl, hJ, by rw [List.drop_zero, ← hHM.out]; exact Nat.le_refl _, hOw', hBw⟩
      case round =>
        obtain ⟨i, st', Fp', pre, xs, hti, rfl, hJ, hmu, hOw2, hBw2⟩ := hrel
        clear hOw' hBw hcell hgl hBg hc5
        obtain ⟨o4, c4, rfl, _⟩ := own_shape hOw2
        by_cases hil : i = l.length
        · subst hil
          have hx0 : xs = [] := by
            have := hJ.rc
            rw [List.drop_length] at this
            exact this
          subst hx0
          have hI : CI w.heap.size wr (fun k => Fp' k ∨ k = g) st' G := by
            have hro := rowB_of hJ.own
            rw [List.append_nil] at hro
            have hwi := hJ.wi
            rw [List.drop_length] at hwi
            refine ⟨(List.nodup_cons.1 hJ.nd).2, hJ.pend, fun k hk => ?_, hwi.fin hro, hJ.ok⟩
            rcases hk with hk | rfl
            · exact hJ.fp k hk
            · obtain ⟨cur, hg, hS, _, _⟩ := own_blk hJ.own
              exact ⟨hS, ⟨cur, 26, hg, by decide⟩, fun r hr e => (List.nodup_cons.1 hJ.nd).1 (List.mem_map.2 ⟨r, hr, e⟩)⟩
          have hmu2 : mu st' ≤ M := by omega
          clear hmu hJ
          go_wp2
          go_roundg (mu st')
          case measure => have := hHM.out; simp only [mu]; omega
          case rel => exact ⟨st', _, rfl, hI, by omega, hOw2, hBw2⟩
        · have hil' : i < l.length := by omega
          obtain ⟨t, ht⟩ : ∃ t, l[i]? = some t := ⟨l[i], by simp [hil']⟩
          have hdrop : l.drop i = t :: l.drop (i + 1) := by
            rw [List.drop_eq_getElem_cons hil']
            rw [List.getElem?_eq_getElem hil'] at ht
            injection ht with ht; rw [ht]
          have hrc := hJ.rc
          rw [hdrop] at hrc
          obtain ⟨tk, tneg, tod, tld, tcd, tnm, tn, tol, tll, tcl, tob, tlb, tcb, ys, hTV, rfl, hRCr⟩ := hrc
          have hHd := hid hdrop
          clear hdrop ht
          have hii : ((i : Nat) : Int) < ((l.length : Nat) : Int) := by omega
          have hpl := hJ.pl
          obtain ⟨y0, y1, y2, y3, y4, y5, y6⟩ := own_cells7 hJ.own hpl
          have kA := Bx.new wr (.int .i64 tk) (.bool tneg) (.slice tod tld tcd) (.string tnm) (.int .i64 tn) (.slice tol tll tcl) (.slice tob tlb tcb) 26
          have hJ1 := hJ.kept (Kept.of_alloc (F := fun _ => False) wr (.cells #[.int .i64 tk, .bool tneg, .slice tod tld tcd, .string tnm, .int .i64 tn, .slice tol tll tcl, .slice tob tlb tcb] 26)) (fun _ h => h.elim) (fun _ _ => id) (fun _ _ => id) id hBw2.size
          have hO1 := own_below hOw2 ((Below.refl _ wr).alloc (Nat.le_refl _) (.cells #[.int .i64 tk, .bool tneg, .slice tod tld tcd, .string tnm, .int .i64 tn, .slice tol tll tcl, .slice tob tlb tcb] 26))
          have hB1 := hBw2.alloc hBw2.size (.cells #[.int .i64 tk, .bool tneg, .slice tod tld tcd, .string tnm, .int .i64 tn, .slice tol tll tcl, .slice tob tlb tcb] 26)
          have hz1 : (wr.alloc (.cells #[.int .i64 tk, .bool tneg, .slice tod tld tcd, .string tnm, .int .i64 tn, .slice tol tll tcl, .slice tob tlb tcb] 26)).heap.size = wr.heap.size + 1 := by simp
          have hTV1 : TV (fun k => k < w.heap.size) (wr.alloc (.cells #[.int .i64 tk, .bool tneg, .slice tod tld tcd, .string tnm, .int .i64 tn, .slice tol tll tcl, .slice tob tlb tcb] 26)) t _ := TV.zs (fun k hk => ((Below.refl wr.heap.size wr).alloc (Nat.le_refl _) _).block k (Nat.lt_of_lt_of_le hk hBw2.size)) _ _ hTV
          clear hJ hOw2 hRCr hTV
          have hokt : t.ok1 := hJ1.okl t (by rw [hHd.out]; simp [partsL, parts_eq])
          go_wp2_with fail
          clear y0 y1 y2 y3 y4 y5 y6
          generalize (wr.alloc (.cells #[.int .i64 tk, .bool tneg, .slice tod tld tcd, .string tnm, .int .i64 tn, .slice tol tll tcl, .slice tob tlb tcb] 26)) = w2 at *
          refine (detached_w w.heap.size t _ _ hB1.size hokt hTV1).mono ?_
          rintro e w3 ⟨v3, rfl, hD3, b3⟩
          have hJ3 := hJ1.kept (Kept.of_below (F := fun _ => False) b3) (fun _ h => h.elim) (fun _ _ => id) (fun _ _ => id) id hB1.size
          have hO3 := own_below hO1 b3
          have hB3 := below_and hB1 (by omega) b3
          have hgB : g < w2.heap.size := by obtain ⟨cur, hg, _⟩ := own_blk hJ1.own; exact (Array.getElem?_eq_some_iff.1 hg).1
          have hrB : Hid (∀ r ∈ st', r.g < w2.heap.size) := hid fun r hr => by obtain ⟨cur, hg⟩ := (hJ1.pend r hr).blk; exact (Array.getElem?_eq_some_iff.1 hg).1
          have hfB : Hid (∀ k, Fp' k → k < w2.heap.size) := hid fun k hk => by obtain ⟨_, ⟨c, t, hc, _⟩, _⟩ := hJ1.fp k hk; exact (Array.getElem?_eq_some_iff.1 hc).1
          have hoB : Hid (∀ k, (Value.slice o4 st'.length c4).ownBlock = some k → w.heap.size ≤ k ∧ k < w2.heap.size) := hid hO1.lt
          clear hJ1 hO1 hTV1 kA
          obtain ⟨dk, dneg, oD, lD, cD, dnm, dn, oL, lL, cL, oB, lB, cB, rfl⟩ := hD3.form
          obtain ⟨y0, y1, y2, y3, y4, y5, y6⟩ := own_cells7 hJ3.own hpl
          have hfr := own_fr hJ3.own
          have hS3 := hB3.size
          unfold tmV
          go_upto_region 11 with fail
          have hO4 := own_put7 (b0 := .int .i64 dk) (b1 := .bool dneg) (b2 := .slice oD lD cD) (b3 := .string dnm) (b4 := .int .i64 dn) (b5 := .slice oL lL cL) (b6 := .slice oB lB cB) hJ3.own hpl
          have hon := only_put7 w3 g (i * 7) (.int .i64 dk) (.bool dneg) (.slice oD lD cD) (.string dnm) (.int .i64 dn) (.slice oL lL cL) (.slice oB lB cB)
          have hkp : Kept (fun k => k = g) w3 (((((((w3.setCell ⟨g, i * 7, none⟩ (.int .i64 dk)).setCell ⟨g, i * 7 + 1, none⟩ (.bool dneg)).setCell ⟨g, i * 7 + 2, none⟩ (.slice oD lD cD)).setCell ⟨g, i * 7 + 3, none⟩ (.string dnm)).setCell ⟨g, i * 7 + 4, none⟩ (.int .i64 dn)).setCell ⟨g, i * 7 + 5, none⟩ (.slice oL lL cL)).setCell ⟨g, i * 7 + 6, none⟩ (.slice oB lB cB)) := ⟨hon.1.os, hon.1.tape, hon.1.output, hon.1.size, fun k hk hn => hon.2.2 k hn⟩
          have hB4 := hB3.trans (hon.below (B := w.heap.size) hJ3.gS)
          clear y0 y1 y2 y3 y4 y5 y6 hfr hon
          generalize (((((((w3.setCell ⟨g, i * 7, none⟩ (.int .i64 dk)).setCell ⟨g, i * 7 + 1, none⟩ (.bool dneg)).setCell ⟨g, i * 7 + 2, none⟩ (.slice oD lD cD)).setCell ⟨g, i * 7 + 3, none⟩ (.string dnm)).setCell ⟨g, i * 7 + 4, none⟩ (.int .i64 dn)).setCell ⟨g, i * 7 + 5, none⟩ (.slice oL lL cL)).setCell ⟨g, i * 7 + 6, none⟩ (.slice oB lB cB)) = w4 at *
          obtain ⟨y0, y1, y2, y3, y4, y5, y6⟩ := own_cells7 hO4 hpl
          have hgr : w3.grownBy w4 (some g) := ⟨hkp.os, hkp.tape, hkp.output, hkp.size, fun k hk hne => hkp.block k hk (fun e => hne (by rw [e]))⟩
          obtain ⟨curg, hgw3, _⟩ := own_blk hJ3.own
          have hwn : ¬ (Value.slice o4 st'.length c4).ownBlock = some g := wait_ne hO3 hgw3 (by decide)
          have hOw4 := hO3.kept hgr (.inr hwn)
          have hmuS := hid (show (partsL (l.drop i)).length = 1 + (partsL t.kids).length + (partsL (l.drop (i + 1))).length by rw [hHd.out]; simp only [partsL, parts_eq, List.length_append, List.length_cons]; omega)
          have hnr : ∀ r ∈ st', r.g ≠ g := fun r hr e => (List.nodup_cons.1 hJ3.nd).1 (List.mem_map.2 ⟨r, hr, e⟩)
          have hfin := cj_step (M := fun k => k = g) (wF := w4) hJ3 hHd.out hD3 hB1.size hgB hrB.out hfB.out hkp (fun k hk => by rw [hk]; exact ⟨hJ3.gS, hgB⟩) hnr (fun k hf e => hJ3.fpg (e ▸ hf)) hS3 (by simpa using hO4)
          obtain ⟨hlL, hc0, _⟩ := hfin
          by_cases hk0 : t.kids = []
          · have hJ5 := hc0 hk0
            have hlL0 : lL = 0 := by rw [hlL, hk0]; rfl
            subst hlL0
            have hmu5 : (partsL (l.drop (i + 1))).length + mu st' ≤ M := by have := hmuS.out; omega
            clear hlL hc0 hnr hmu hJ3 hO3 hgr hwn hkp hD3
            have hHk := hid hk0
            clear hk0
            go_wp2
            go_roundg (l.length - (i + 1))
            case measure => omega
            case rel => exact ⟨i + 1, st', _, _, ys, by omega, by go_num, hJ5, hmu5, hOw4, hB4⟩
          · have hkl : 0 < t.kids.length := List.length_pos_iff.2 hk0
            have hlp : (0 : Int) < (lL : Int) := by rw [hlL]; omega
            have hHO := hid (hOw4.alloc (.cells #[.slice oL lL cL] 23))
            have hS4 := hB4.size
            have hsl4 : st'.length + 1 ≤ 500001 := by have := mu_len st'; have := hmuS.out; omega
            clear hc0
            have hHk := hid hk0
            have hHL := hid hlL
            clear hk0 hlL
            go_wp2_with (at_builtin; refine wpList_append_own _ rfl _ _ 79 rfl w.heap.size 23 i0 (.slice none 0 0) 1 24 Tryz.underlying79 hi hyy0 hyy1 hyy2 rfl (by decide) _ _ _ rfl hHO.out ⟨w4.heap.size, 0, none⟩ 1 1 [.slice oL lL cL] rfl ?c1 ?c2 ?c3 ?c4 ?c5 ?c6 ?_)
            case c1 => rfl
            case c2 =>
              intro j u hj
              cases j with
              | zero =>
                simp only [List.getElem?_cons_zero, Option.some.injEq] at hj
                subst hj
                rw [add_zero, World.cell?_alloc_mark]; rfl
              | succ j => simp at hj
            case c3 => intro u hu; simp at hu; subst hu; rfl
            case c4 => unfold maxLen; omega
            case c5 => omega
            case c6 => simp; omega
            intro v6 w6 hown hgrow hnil
            have hk6 : Kept (fun k => k = g ∨ (Value.slice o4 st'.length c4).ownBlock = some k) w3 w6 := ((hkp.mono (fun k hk => .inl hk)).trans (Kept.of_alloc w4 _)).trans (Kept.of_grown hgrow (fun k hk => .inr hk))
            have hgu : w6.heap[g]? = w4.heap[g]? := by
              have h1 : (w4.alloc (.cells #[.slice oL lL cL] 23)).heap[g]? = w4.heap[g]? := ((Below.refl w4.heap.size w4).alloc (Nat.le_refl _) _).block g (Nat.lt_of_lt_of_le (Array.getElem?_eq_some_iff.1 hgw3).1 hkp.size)
              rw [← h1]
              exact hgrow.block g (by have := (Array.getElem?_eq_some_iff.1 hgw3).1; have := hkp.size; simp; omega) (fun e => hwn e.symm)
            have hO6 := own_same hO4 hgu
            have hfin := cj_step (wF := w6) hJ3 hHd.out hD3 hB1.size hgB hrB.out hfB.out hk6 (fun k hk => by
                rcases hk with rfl | hk
                · exact ⟨hJ3.gS, hgB⟩
                · exact hoB.out k hk) (fun r hr hm => by
                rcases hm with hm | hm
                · exact hnr r hr hm
                · obtain ⟨cur, hc⟩ := (hJ3.pend r hr).blk
                  exact wait_ne hO3 hc (by decide) hm) (fun k hf hm => by
                rcases hm with rfl | hm
                · exact hJ3.fpg hf
                · obtain ⟨_, ⟨c, t, hc, ht⟩, _⟩ := hJ3.fp k hf
                  exact wait_ne hO3 hc ht hm) hS3 (by simpa using hO6)
            obtain ⟨_, _, hc1⟩ := hfin
            obtain ⟨gL, hoL, hJ5⟩ := hc1 hHk.out
            have hB6 : Below w.heap.size w w6 := (hB4.alloc hS4 _).trans (show Below w.heap.size _ w6 from ⟨hgrow.os, hgrow.tape, hgrow.output, hgrow.size, fun k hk => hgrow.block k (by simp; omega) (fun e => by have := hoB.out k e.symm; omega)⟩)
            have hmu5 : (partsL (l.drop (i + 1))).length + mu (⟨gL, cL, t.kids⟩ :: st') ≤ M := by have := hmuS.out; simp only [mu]; omega
            have hOw6 : w6.ownsRow w.heap.size 23 1 v6 (Pr.mk gL cL t.kids :: st').length ((Pr.mk gL cL t.kids :: st').map Pr.val).reverse := by
              have hll' := hHL.out
              subst hoL
              subst hll'
              simpa [Pr.val] using hown
            clear hown hgrow hnil hk6 hgu hO6 hc1 hJ3 hO3 hgr hwn hkp hD3 hHO hnr hOw4 hO4 y0 y1 y2 y3 y4 y5 y6
            go_wp2
            go_roundg (l.length - (i + 1))
            case measure => omega
            case rel => exact ⟨i + 1, _, _, _, ys, by omega, by go_num, hJ5, hmu5, hOw6, hB6⟩
end Go.Proofs.YtjacoodfhkaioabGreatDoor
namespace Go.Proofs.YtjacoodfhkaioabGreatDoor
open Go.ChangeShapes Go.WideShapes Go.ChangeAt Go.RowKit Go.Shelf
set_option linter.unusedSimpArgs false
set_option linter.unusedVariables false
set_option maxRecDepth 2000
/-- a result in the block g -/
theorem Bx.res {g : Nat} {a0 a1 a2 a3 a4 a5 a6 : Value} {w : World} (h : Bx g a0 a1 a2 a3 a4 a5 a6 w) : w.cell? ⟨g, 0, none⟩ = some a0 ∧ w.cell? ⟨g, 1, none⟩ = some a1 ∧ w.cell? ⟨g, 2, none⟩ = some a2 ∧ w.cell? ⟨g, 3, none⟩ = some a3 ∧ w.cell? ⟨g, 4, none⟩ = some a4 ∧ w.cell? ⟨g, 5, none⟩ = some a5 ∧ w.cell? ⟨g, 6, none⟩ = some a6 := ⟨h.c0, h.c1, h.c2, h.c3, h.c4, h.c5, h.c6⟩
theorem zw_move {S S' : Nat} {w w' : World} {t : Tm} {v : Value} (h : TV (Zw S w) w t v) (hb : ∀ k, S ≤ k → k < w.heap.size → w'.heap[k]? = w.heap[k]?) (hS : S' ≤ S) : TV (Zw S' w') w' t v := by
  have h1 : TV (fun k => Zw S w k ∧ k < w.heap.size) w t v := TV.mono (fun k hk hz => ⟨hz, hk⟩) _ _ h
  have h2 := TV.zs (w' := w') (fun k hk => hb k hk.1.1 hk.2) _ _ h1
  refine TV.mono (fun k _ hz => ⟨Nat.le_trans hS hz.1.1, fun j => ?_⟩) _ _ h2
  have := World.frozen?_of_block (a := ⟨k, j, none⟩) (hb k hz.1.1 hz.2)
  exact this.trans (hz.1.2 j)
theorem tv_low {Z : Nat → Prop} {w : World} {t : Tm} {v : Value} (h : TV Z w t v) : TV (Low w) w t v := TV.mono (fun k hk _ => hk) _ _ h
theorem tv_below {w w' : World} {t : Tm} {v : Value} (h : TV (Low w) w t v) (hb : Below w.heap.size w w') : TV (Low w') w' t v := tv_low (TV.zs (fun k hk => hb.block k hk) _ _ h)
theorem tr_low {Z : Nat → Prop} {w : World} {l : List Tm} {o : Option Addr} (h : TR Z w l o) : TR (Low w) w l o := TR.mono (fun k hk _ => hk) _ _ h
theorem tr_below {w w' : World} {l : List Tm} {o : Option Addr} (h : TR (Low w) w l o) (hb : Below w.heap.size w w') : TR (Low w') w' l o := tr_low (TR.zs (fun k hk => hb.block k hk) _ _ h)
/-- one term in a row of one -/
theorem tr_one {w : World} {t : Tm} {k : Int} {neg : Bool} {od : Option Addr} {ld cd : Nat} {nm : ByteArray} {n : Int} {ol : Option Addr} {ll cl : Nat} {ob : Option Addr} {lb cb : Nat} {ty : TypeId} (h : TV (Low w) w t (tmV k neg (.slice od ld cd) nm n (.slice ol ll cl) (.slice ob lb cb))) :
    TR (Low (w.alloc (.cells #[.int .i64 k, .bool neg, .slice od ld cd, .string nm, .int .i64 n, .slice ol ll cl, .slice ob lb cb] ty))) (w.alloc (.cells #[.int .i64 k, .bool neg, .slice od ld cd, .string nm, .int .i64 n, .slice ol ll cl, .slice ob lb cb] ty)) [t] (some ⟨w.heap.size, 0, none⟩) := by
  have hb := (Below.refl w.heap.size w).alloc (Nat.le_refl _) (.cells #[.int .i64 k, .bool neg, .slice od ld cd, .string nm, .int .i64 n, .slice ol ll cl, .slice ob lb cb] ty)
  have kx := Bx.new w (.int .i64 k) (.bool neg) (.slice od ld cd) (.string nm) (.int .i64 n) (.slice ol ll cl) (.slice ob lb cb) ty
  unfold TR
  exact ⟨_, _, rfl, kx.lt, ⟨_, _, _, _, _, _, _, rfl, kx.c0, by rw [addr_add]; exact kx.c1, by rw [addr_add]; exact kx.c2, by rw [addr_add]; exact kx.c3, by rw [addr_add]; exact kx.c4, by rw [addr_add]; exact kx.c5, by rw [addr_add]; exact kx.c6⟩, tv_below h hb, by unfold TR; trivial⟩
set_option maxHeartbeats 1000000 in
theorem Copy_w (T : Tm) (v : Value) (w : World) (hlen : (parts T).length ≤ 500000) (hok : ∀ p ∈ parts T, p.ok1) (hT : TV (Low w) w T v) :
    Calls Tryz.prog 80 #[v] w fun e w' => ∃ v', e = .returned v' ∧ TV (Zw w.heap.size w') w' (cpT T) v' ∧ Below w.heap.size w w' := by
  obtain ⟨k, neg, od, ld, cd, nm, n, ol, ll, cl, ob, lb, cb, rfl⟩ := hT.form
  obtain ⟨kA, kB, hB0, hz0⟩ := bx2 w (.int .i64 k) (.bool neg) (.slice od ld cd) (.string nm) (.int .i64 n) (.slice ol ll cl) (.slice ob lb cb) (.int .i64 0) (.bool false) nilS (.string noS) (.int .i64 0) nilS nilS 26 26
  go_enter Tryz.func80, Tryz.ntmps80
  go_wp2_with fail
  generalize hW : ((w.alloc (.cells #[.int .i64 k, .bool neg, .slice od ld cd, .string nm, .int .i64 n, .slice ol ll cl, .slice ob lb cb] 26)).alloc (.cells #[.int .i64 0, .bool false, .slice none 0 0, .string { data := #[] }, .int .i64 0, .slice none 0 0, .slice none 0 0] 26)) = W0 at *
  clear hW
  have hT1 := tr_one (ty := 26) (tv_below hT hB0)
  have hB1 := hB0.alloc (by omega) (.cells #[.int .i64 k, .bool neg, .slice od ld cd, .string nm, .int .i64 n, .slice ol ll cl, .slice ob lb cb] 26)
  have kB1 := kB.below ((Below.refl _ W0).alloc (Nat.le_refl _) (.cells #[.int .i64 k, .bool neg, .slice od ld cd, .string nm, .int .i64 n, .slice ol ll cl, .slice ob lb cb] 26))
  have hz1 : (W0.alloc (.cells #[.int .i64 k, .bool neg, .slice od ld cd, .string nm, .int .i64 n, .slice ol ll cl, .slice ob lb cb] 26)).heap.size = w.heap.size + 3 := by simp [hz0]
  rw [hz0] at hT1
  generalize (W0.alloc (.cells #[.int .i64 k, .bool neg, .slice od ld cd, .string nm, .int .i64 n, .slice ol ll cl, .slice ob lb cb] 26)) = W1 at *
  refine (copies_w [T] _ _ _ (by simp) (by simpa [partsL] using hlen) (by simp) (by simpa [partsL] using hok) hT1).mono ?_
  rintro e w2 ⟨g', c', rfl, hR, _, b2⟩
  simp only [cpL] at hR
  unfold TR at hR
  obtain ⟨a, v2, ha, hZ, hA, hV, _⟩ := hR
  injection ha with ha
  subst ha
  obtain ⟨k2, neg2, od2, ld2, cd2, nm2, n2, ol2, ll2, cl2, ob2, lb2, cb2, rfl⟩ := hV.form
  obtain ⟨x0, x1, x2, x3, x4, x5, x6⟩ := hA.tm
  simp only [Nat.zero_add] at x1 x2 x3 x4 x5 x6
  have kB2 := kB1.below b2
  have hB2 := below_and hB1 (by omega) b2
  have hf := kB2.fr
  obtain ⟨f0, f1, f2, f3, f4, f5, f6, _⟩ := id kB2
  have hput := kB2.put (b0 := .int .i64 k2) (b1 := .bool neg2) (b2 := .slice od2 ld2 cd2) (b3 := .string nm2) (b4 := .int .i64 n2) (b5 := .slice ol2 ll2 cl2) (b6 := .slice ob2 lb2 cb2)
  have hon := only_put w2 (w.heap.size + 1) (.int .i64 k2) (.bool neg2) (.slice od2 ld2 cd2) (.string nm2) (.int .i64 n2) (.slice ol2 ll2 cl2) (.slice ob2 lb2 cb2)
  obtain ⟨r0, r1, r2, r3, r4, r5, r6⟩ := hput.res
  go_wp2
  refine bodyPost_ret (v := tmV k2 neg2 (.slice od2 ld2 cd2) nm2 n2 (.slice ol2 ll2 cl2) (.slice ob2 lb2 cb2)) (by simp [results, Tryz.results80, go_sem, r0, r1, r2, r3, r4, r5, r6]) rfl ⟨_, rfl, zw_move hV (fun k hk _ => hon.2.2 k (by omega)) (by omega), hB2.trans (hon.below (B := w.heap.size) (by omega))⟩
end Go.Proofs.YtjacoodfhkaioabGreatDoor
