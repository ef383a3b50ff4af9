/- detached of package term: a part on memory of its own. -/
import Derived.Test.YtddbndachoofoaaDoorTermDet
namespace Go.Proofs.YtddbndachoofoaaDoor
open Go.ChangeShapes Go.WideShapes Go.ChangeAt Go.RowKit Go.Shelf
set_option linter.unusedSimpArgs false
set_option linter.unusedVariables false
theorem wp_append_run {P : Program} {w : World} {o : Oper} {a : Act} {K : Act → World → Prop} {Q : Exit → Act → World → Prop} (s x : Operand) (t : TypeId) (ho : o.op = .call { callee := .builtin .append, args := #[s, x], argTypes := #[t, t] })
    (vs vx v' : Value) (w' : World) (hs : a.eval s = vs) (hx : a.eval x = vx) (hr : (Builtin.append_ #[t, t] o.type #[vs, vx]).run P w = .ok v' w') (h : K (a.put o.dst v') w') : o.wp P a w K Q := by
  unfold Oper.wp execOp
  simp only [ho, resolve, invoke, builtin, Sem.run_bind, Sem.run_pure, Result.andThen_ok, List.map_toArray, List.map_cons, List.map_nil, hs, hx, hr]
  exact h
theorem wpList_append_run {P : Program} {w : World} {ops : Array Oper} {rest : List Oper} {o : Oper} {a : Act} {Q : Exit → Act → World → Prop} (hgd : o.guard = none) (s x : Operand) (t : TypeId) (ho : o.op = .call { callee := .builtin .append, args := #[s, x], argTypes := #[t, t] })
    (vs vx v' : Value) (w' : World) (hs : a.eval s = vs) (hx : a.eval x = vx) (hr : (Builtin.append_ #[t, t] o.type #[vs, vx]).run P w = .ok v' w') (h : wpList P ops Q rest (a.put o.dst v') w') : wpList P ops Q (o :: rest) a w :=
  wpList_plain hgd fun _ hK => wp_append_run s x t ho vs vx v' w' hs hx hr (hK _ _ h)
/-- a part on memory of its own, its own parts as they were -/
def Dt (S B : Nat) (w : World) : Tm → Value → Prop
  | .mk k neg d nm n l b, v => ∃ D L Bv xs, v = tmV k neg D nm n L Bv ∧ w.ownsRow B 52 1 D d.length (lim d) ∧ w.ownsRow B 29 7 L l.length xs ∧ RC (fun k => k < S) w l xs ∧ w.ownsRow B 5 1 Bv b.length (bts b) ∧ Lm 4294967296 d ∧ Lm 256 b
theorem prT_ok {T : Tm} (h : T.ok1) : (prT T).ok1 := by
  cases T with | mk k neg d nm n l b =>
  obtain ⟨h1, h2, h3, h4, h5⟩ : d.length ≤ 1000000 ∧ nm.size ≤ 1000000 ∧ l.length ≤ 1000000 ∧ b.length ≤ 1000000 ∧ Lm 4294967296 d := h
  have z3 : Lm 4294967296 [] := Lm.nil _
  have z0 : noS.size ≤ 1000000 := by decide
  unfold prT
  by_cases e0 : k = 0
  · subst e0; exact ⟨h1, z0, by simp, by simp, h5⟩
  by_cases e1 : k = 1
  · subst e1; exact ⟨by simp, h2, by simp, by simp, z3⟩
  by_cases e2 : k = 2
  · subst e2; exact ⟨by simp, z0, by simp, by simp, z3⟩
  by_cases e3 : k = 3
  · subst e3; exact ⟨by simp, z0, by simp, by simp, z3⟩
  by_cases e4 : k = 4
  · subst e4; exact ⟨by simp, z0, h3, by simp, z3⟩
  by_cases e6 : k = 6
  · subst e6; exact ⟨by simp, z0, h3, by simp, z3⟩
  by_cases e7 : k = 7
  · subst e7; exact ⟨by simp, z0, by simp, h4, z3⟩
  simp only [e0, e1, e2, e3, e4, e6, e7, if_false]
  exact ⟨by simp, z0, by simp, by simp, z3⟩
theorem own_keptS {w w' : World} {F : Nat → Prop} {B s : Nat} {e : TypeId} {v : Value} {m : Nat} {xs : List Value} (h : w.ownsRow B e s v m xs) (hk : Kept F w w') (hF : ∀ k, F k → k < B) : w'.ownsRow B e s v m xs := by
  obtain ⟨h1, h2 | ⟨g', cap', cur, h2, hB, hg, rest⟩⟩ := h
  · exact ⟨h1, .inl h2⟩
  · exact ⟨h1, .inr ⟨g', cap', cur, h2, hB, (hk.block g' (Array.getElem?_eq_some_iff.1 hg).1 (fun hf => by have := hF _ hf; omega)).trans hg, rest⟩⟩
set_option maxHeartbeats 2000000 in
theorem detached_w (S : Nat) (T : Tm) (v : Value) (w : World) (hS : S ≤ w.heap.size) (hok : T.ok1) (hT : TV (fun k => k < S) w T v) :
    Calls Tryd.prog 56 #[v] w fun e w' => ∃ v', e = .returned v' ∧ Dt S w.heap.size w' (prT T) v' ∧ Below w.heap.size w w' := by
  have hpok := prT_ok hok
  cases T with | mk tk tneg td tnm tn tl tb =>
  have hT0 := hT
  unfold TV at hT
  obtain ⟨tod, tcd, tol, tcl, tob, tcb, rfl, _⟩ := hT
  have hp := prV_tv hT0
  clear hT0 hok
  generalize prT (.mk tk tneg td tnm tn tl tb) = P at *
  cases P with | mk pk pneg pd pnm pn pl pb =>
  obtain ⟨q1, q2, q3, q4, q5⟩ : pd.length ≤ 1000000 ∧ pnm.size ≤ 1000000 ∧ pl.length ≤ 1000000 ∧ pb.length ≤ 1000000 ∧ Lm 4294967296 pd := hpok
  unfold TV at hp
  obtain ⟨pod, pcd, pol, pcl, pob, pcb, hpv, hpD, _, _, hpB, _, _, hpL⟩ := hp
  unfold tmV at hpv
  obtain ⟨kA, kB, hB0, hz0⟩ := bx2 w (.int .i64 tk) (.bool tneg) (.slice tod td.length tcd) (.string tnm) (.int .i64 tn) (.slice tol tl.length tcl) (.slice tob tb.length tcb) (.int .i64 0) (.bool false) nilS (.string noS) (.int .i64 0) nilS nilS 29 29
  obtain ⟨xs, hRC, hLc⟩ := hpL.rc
  obtain ⟨iD, hD0, hD1, hD2, hD3⟩ := info_parts info32u
  obtain ⟨iB, hB1', hB2', hB3', hB4'⟩ := info_parts info8
  obtain ⟨iT, hT1, hT2, hT3, hT4⟩ := info_parts infoT
  clear hpL
  go_enter Tryd.func56, Tryd.ntmps56
  go_wp2_with fail
  generalize ((w.alloc (.cells #[.int .i64 tk, .bool tneg, .slice tod td.length tcd, .string tnm, .int .i64 tn, .slice tol tl.length tcl, .slice tob tb.length tcb] 29)).alloc (.cells #[.int .i64 0, .bool false, .slice none 0 0, .string { data := #[] }, .int .i64 0, .slice none 0 0, .slice none 0 0] 29)) = W0 at *
  refine (pruned_w tk tneg tod td.length tcd tnm tn tol tl.length tcl tob tb.length tcb _).mono ?_
  rintro e w1 ⟨rfl, b1⟩
  rw [hpv]
  clear hpv
  have hBB1 := below_and hB0 (Nat.le_refl _) b1
  have kA1 := kA.below b1
  have kB1 := kB.below b1
  have hz1 : w.heap.size + 2 ≤ w1.heap.size := by have := b1.size; omega
  clear kA kB b1 hB0
  obtain ⟨f0, f1, f2, f3, f4, f5, f6, ff⟩ := id kA1
  go_upto_region 2 with fail
  have kA2 := kA1.put (b0 := .int .i64 pk) (b1 := .bool pneg) (b2 := .slice pod pd.length pcd) (b3 := .string pnm) (b4 := .int .i64 pn) (b5 := .slice pol pl.length pcl) (b6 := .slice pob pb.length pcb)
  have ho2 := only_put w1 w.heap.size (.int .i64 pk) (.bool pneg) (.slice pod pd.length pcd) (.string pnm) (.int .i64 pn) (.slice pol pl.length pcl) (.slice pob pb.length pcb)
  have kB2 := kB1.only ho2 (by omega)
  have hB2 := hBB1.trans (ho2.below (B := w.heap.size) (Nat.le_refl _))
  have hz2 := ho2.2.1
  clear kA1 kB1 f0 f1 f2 f3 f4 f5 f6 ff hBB1 ho2
  generalize (((((((w1.setCell ⟨w.heap.size, 0, none⟩ (.int .i64 pk)).setCell ⟨w.heap.size, 1, none⟩ (.bool pneg)).setCell ⟨w.heap.size, 2, none⟩ (.slice pod pd.length pcd)).setCell ⟨w.heap.size, 3, none⟩ (.string pnm)).setCell ⟨w.heap.size, 4, none⟩ (.int .i64 pn)).setCell ⟨w.heap.size, 5, none⟩ (.slice pol pl.length pcl)).setCell ⟨w.heap.size, 6, none⟩ (.slice pob pb.length pcb)) = w2 at *
  -- the limbs
  obtain ⟨vD, w3, hr3, hO3, b3⟩ := ap_run 26 52 iD (.int .u32 0) 1 4 Tryd.underlying26 hD0 hD1 hD2 hD3 rfl (by decide) w2 pod pcd pd.length (lim pd) (by simp) (fun u hu => by obtain ⟨x, _, rfl⟩ := List.mem_map.1 hu; rfl) q1 (by omega) (hpD.zs (fun k hk => hB2.block k (Nat.lt_of_lt_of_le hk hS))).lc
  obtain ⟨oD, cD, rfl, _⟩ := own_sl hO3
  have kA3 := kA2.below b3
  have kB3 := kB2.below b3
  have hB3 := below_and hB2 (Nat.le_refl _) b3
  have hz3 : w.heap.size + 2 ≤ w3.heap.size := by have := b3.size; omega
  have hO3' : w3.ownsRow (w.heap.size + 2) 52 1 (.slice oD pd.length cD) pd.length (lim pd) := own_mono hO3 (by omega)
  obtain ⟨f0, f1, f2, f3, f4, f5, f6, ff⟩ := id kA2
  have ff3 := kA3.fr
  have g2 := kA3.c2
  clear b3 hO3
  go_upto_region 3 with (at_builtin; refine wpList_append_run rfl _ _ 26 rfl _ _ _ _ rfl rfl hr3 ?_)
  have kA4 := kA3.s2 (.slice oD pd.length cD)
  have ho4 := only_set w3 w.heap.size 2 (.slice oD pd.length cD)
  have kB4 := kB3.only ho4 (by omega)
  have hB4 := hB3.trans (ho4.below (B := w.heap.size) (Nat.le_refl _))
  have hO4 := own_set hO3' (p := ⟨w.heap.size, 2, none⟩) (by show w.heap.size < w.heap.size + 2; omega) (.slice oD pd.length cD)
  have hz4 : w.heap.size + 2 ≤ (w3.setCell ⟨w.heap.size, 2, none⟩ (.slice oD pd.length cD)).heap.size := by rw [ho4.2.1]; exact hz3
  clear f0 f1 f2 f3 f4 f5 f6 ff ff3 g2 kA3 kB3 kA2 kB2 hr3 ho4 hO3' hB3 hz3 hB2
  generalize (w3.setCell ⟨w.heap.size, 2, none⟩ (.slice oD pd.length cD)) = w4 at *
  -- the name
  obtain ⟨f0, f1, f2, f3, f4, f5, f6, ff⟩ := id kA4
  go_wp2_with fail
  refine (sclone_w pnm _ (by omega)).mono ?_
  rintro e w5 ⟨rfl, b5⟩
  have kA5 := kA4.below b5
  have kB5 := kB4.below b5
  have hB5 := below_and hB4 (Nat.le_refl _) b5
  have hO5 := own_below hO4 b5
  have hz5 : w.heap.size + 2 ≤ w5.heap.size := Nat.le_trans hz4 b5.size
  clear f0 f1 f2 f3 f4 f5 f6 ff kA4 kB4 hB4 hO4 hz4 b5
  obtain ⟨f0, f1, f2, f3, f4, f5, f6, ff⟩ := id kA5
  go_upto_region 4 with fail
  have kA6 := kA5.s3 (.string pnm)
  have ho6 := only_set w5 w.heap.size 3 (.string pnm)
  have kB6 := kB5.only ho6 (by omega)
  have hB6 := hB5.trans (ho6.below (B := w.heap.size) (Nat.le_refl _))
  have hO6 := own_set hO5 (p := ⟨w.heap.size, 3, none⟩) (by show w.heap.size < w.heap.size + 2; omega) (.string pnm)
  have hz6 : w.heap.size + 2 ≤ (w5.setCell ⟨w.heap.size, 3, none⟩ (.string pnm)).heap.size := by rw [ho6.2.1]; exact hz5
  clear f0 f1 f2 f3 f4 f5 f6 ff kA5 kB5 ho6 hO5 hB5 hz5
  generalize (w5.setCell ⟨w.heap.size, 3, none⟩ (.string pnm)) = w6 at *
  -- the parts
  have hRC6 := hRC.zs (fun k hk => hB6.block k (Nat.lt_of_lt_of_le hk hS))
  obtain ⟨vL, w7, hr7, hL7, b7⟩ := ap_run 23 29 iT _ 7 112 Tryd.underlying23 hT1 hT2 hT3 hT4 rfl (by decide) w6 pol pcl pl.length xs hRC6.len hRC6.one q3 (by omega) (fun j u hj => by
    obtain ⟨a, ha, hc⟩ := hLc j u hj
    exact ⟨a, ha, (hB6.cell (World.block_lt_of_cell? _ _ hc)).trans hc⟩)
  obtain ⟨oL, cL, rfl, _⟩ := own_sl hL7
  have hRC7 := hRC6.zs (fun k hk => b7.block k (by have := hB6.size; omega))
  have kA7 := kA6.below b7
  have kB7 := kB6.below b7
  have hB7 := below_and hB6 (Nat.le_refl _) b7
  have hO7 := own_below hO6 b7
  have hz7 : w.heap.size + 2 ≤ w7.heap.size := Nat.le_trans hz6 b7.size
  have hL7' : w7.ownsRow (w.heap.size + 2) 29 7 (.slice oL pl.length cL) pl.length xs := own_mono hL7 hz6
  obtain ⟨f0, f1, f2, f3, f4, f5, f6, ff⟩ := id kA6
  have ff3 := kA7.fr
  have g2 := kA7.c5
  clear b7 hL7 hRC6 hLc hRC
  go_upto_region 5 with (at_builtin; refine wpList_append_run rfl _ _ 23 rfl _ _ _ _ rfl rfl hr7 ?_)
  have kA8 := kA7.s5 (.slice oL pl.length cL)
  have ho8 := only_set w7 w.heap.size 5 (.slice oL pl.length cL)
  have kB8 := kB7.only ho8 (by omega)
  have hB8 := hB7.trans (ho8.below (B := w.heap.size) (Nat.le_refl _))
  have hO8 := own_set hO7 (p := ⟨w.heap.size, 5, none⟩) (by show w.heap.size < w.heap.size + 2; omega) (.slice oL pl.length cL)
  have hL8 := own_set hL7' (p := ⟨w.heap.size, 5, none⟩) (by show w.heap.size < w.heap.size + 2; omega) (.slice oL pl.length cL)
  have hRC8 := hRC7.zs (w' := w7.setCell ⟨w.heap.size, 5, none⟩ (.slice oL pl.length cL)) (fun k hk => ho8.2.2 k (by omega))
  have hz8 : w.heap.size + 2 ≤ (w7.setCell ⟨w.heap.size, 5, none⟩ (.slice oL pl.length cL)).heap.size := by rw [ho8.2.1]; exact hz7
  clear f0 f1 f2 f3 f4 f5 f6 ff ff3 g2 kA7 kB7 kA6 kB6 hr7 ho8 hL7' hB7 hz7 hB6 hO7 hRC7 hO6 hz6
  generalize (w7.setCell ⟨w.heap.size, 5, none⟩ (.slice oL pl.length cL)) = w8 at *
  -- the bytes
  obtain ⟨vB, w9, hr9, hb9, b9⟩ := ap_run 27 5 iB (.int .u8 0) 1 1 Tryd.underlying27 hB1' hB2' hB3' hB4' rfl (by decide) w8 pob pcb pb.length (bts pb) (by simp) (fun u hu => by obtain ⟨x, _, rfl⟩ := List.mem_map.1 hu; rfl) q4 (by omega) (hpB.zs (fun k hk => hB8.block k (Nat.lt_of_lt_of_le hk hS))).1.lc
  obtain ⟨oB, cB, rfl, _⟩ := own_sl hb9
  have hRC9 := hRC8.zs (fun k hk => b9.block k (by have := hB8.size; omega))
  have kA9 := kA8.below b9
  have kB9 := kB8.below b9
  have hB9 := below_and hB8 (Nat.le_refl _) b9
  have hO9 := own_below hO8 b9
  have hL9 := own_below hL8 b9
  have hz9 : w.heap.size + 2 ≤ w9.heap.size := Nat.le_trans hz8 b9.size
  have hb9' : w9.ownsRow (w.heap.size + 2) 5 1 (.slice oB pb.length cB) pb.length (bts pb) := own_mono hb9 hz8
  obtain ⟨f0, f1, f2, f3, f4, f5, f6, ff⟩ := id kA8
  have ff3 := kA9.fr
  have g2 := kA9.c6
  clear b9 hb9 hRC8
  go_upto_region 6 with (at_builtin; refine wpList_append_run rfl _ _ 27 rfl _ _ _ _ rfl rfl hr9 ?_)
  have kA10 := kA9.s6 (.slice oB pb.length cB)
  have ho10 := only_set w9 w.heap.size 6 (.slice oB pb.length cB)
  have kB10 := kB9.only ho10 (by omega)
  have hB10 := hB9.trans (ho10.below (B := w.heap.size) (Nat.le_refl _))
  have hO10 := own_set hO9 (p := ⟨w.heap.size, 6, none⟩) (by show w.heap.size < w.heap.size + 2; omega) (.slice oB pb.length cB)
  have hL10 := own_set hL9 (p := ⟨w.heap.size, 6, none⟩) (by show w.heap.size < w.heap.size + 2; omega) (.slice oB pb.length cB)
  have hb10 := own_set hb9' (p := ⟨w.heap.size, 6, none⟩) (by show w.heap.size < w.heap.size + 2; omega) (.slice oB pb.length cB)
  have hRC10 := hRC9.zs (w' := w9.setCell ⟨w.heap.size, 6, none⟩ (.slice oB pb.length cB)) (fun k hk => ho10.2.2 k (by omega))
  have hz10 : w.heap.size + 2 ≤ (w9.setCell ⟨w.heap.size, 6, none⟩ (.slice oB pb.length cB)).heap.size := by rw [ho10.2.1]; exact hz9
  clear f0 f1 f2 f3 f4 f5 f6 ff ff3 g2 kA9 kB9 kA8 kB8 hr9 ho10 hb9' hB9 hz9 hB8 hO9 hL9 hRC9 hO8 hL8 hz8
  generalize (w9.setCell ⟨w.heap.size, 6, none⟩ (.slice oB pb.length cB)) = wA at *
  -- the answer
  obtain ⟨f0, f1, f2, f3, f4, f5, f6, ff⟩ := id kA10
  obtain ⟨g0, g1, g2, g3, g4, g5, g6, gf⟩ := id kB10
  have hput := kB10.put (b0 := .int .i64 pk) (b1 := .bool pneg) (b2 := .slice oD pd.length cD) (b3 := .string pnm) (b4 := .int .i64 pn) (b5 := .slice oL pl.length cL) (b6 := .slice oB pb.length cB)
  have hon := only_put wA (w.heap.size + 1) (.int .i64 pk) (.bool pneg) (.slice oD pd.length cD) (.string pnm) (.int .i64 pn) (.slice oL pl.length cL) (.slice oB pb.length cB)
  obtain ⟨r0, r1, r2, r3, r4, r5, r6, _⟩ := hput
  go_wp2
  have hkp : Kept (fun k => k = w.heap.size + 1) wA (((((((wA.setCell ⟨w.heap.size + 1, 0, none⟩ (.int .i64 pk)).setCell ⟨w.heap.size + 1, 1, none⟩ (.bool pneg)).setCell ⟨w.heap.size + 1, 2, none⟩ (.slice oD pd.length cD)).setCell ⟨w.heap.size + 1, 3, none⟩ (.string pnm)).setCell ⟨w.heap.size + 1, 4, none⟩ (.int .i64 pn)).setCell ⟨w.heap.size + 1, 5, none⟩ (.slice oL pl.length cL)).setCell ⟨w.heap.size + 1, 6, none⟩ (.slice oB pb.length cB)) := ⟨hon.1.os, hon.1.tape, hon.1.output, hon.1.size, fun k hk hn => hon.2.2 k hn⟩
  refine bodyPost_ret (v := tmV pk pneg (.slice oD pd.length cD) pnm pn (.slice oL pl.length cL) (.slice oB pb.length cB)) (by simp [results, Tryd.results56, go_sem, r0, r1, r2, r3, r4, r5, r6]) rfl ⟨_, rfl, ⟨_, _, _, xs, rfl, ?_, ?_, ?_, ?_, q5, hpB.2⟩, hB10.trans (hon.below (B := w.heap.size) (by omega))⟩
  · exact own_mono (B := w.heap.size + 2) (own_keptS hO10 hkp (fun k hk => by omega)) (by omega)
  · exact own_mono (B := w.heap.size + 2) (own_keptS hL10 hkp (fun k hk => by omega)) (by omega)
  · exact hRC10.zs (fun k hk => hon.2.2 k (by omega))
  · exact own_mono (B := w.heap.size + 2) (own_keptS hb10 hkp (fun k hk => by omega)) (by omega)
end Go.Proofs.YtddbndachoofoaaDoor
