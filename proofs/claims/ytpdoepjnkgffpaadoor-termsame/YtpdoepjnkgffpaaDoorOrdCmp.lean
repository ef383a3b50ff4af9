/- compare of package order's walk. -/
import Derived.Test.YtpdoepjnkgffpaaDoorOrdOrd
import Derived.Test.YtpdoepjnkgffpaaDoorTermCopyAll
import Derived.Deep.CutRange
import Derived.Deep.LoopGhost
namespace Go.Proofs.YtpdoepjnkgffpaaDoor
open Go.ChangeShapes Go.WideShapes Go.ChangeAt Go.ChangeMaps Go.RowKit Go.Shelf
set_option linter.unusedSimpArgs false
set_option linter.unusedVariables false
set_option maxRecDepth 2000
theorem Tabs.low {B : Nat} {w w' : World} (h : Tabs w) (hG : 0 < B ∧ 1 < B) (hb : Below B w w') : Tabs w' :=
  ⟨fun c hc => (hb.cell hG.1).trans (h.1 c hc), fun i hi => ⟨(hb.cell hG.2).trans (h.2 i hi).1, (hb.cell hG.2).trans (h.2 i hi).2⟩⟩
theorem Tabs.lt {w : World} (h : Tabs w) : 0 < w.heap.size ∧ 1 < w.heap.size := ⟨World.block_lt_of_cell? _ _ (h.1 0 (by decide)), World.block_lt_of_cell? _ _ (h.2 0 (by decide)).1⟩
theorem at7_block {g : Nat} {a0 a1 a2 a3 a4 a5 a6 : Value} {T : TypeId} {w : World} (h : w.heap[g]? = some (.cells #[a0, a1, a2, a3, a4, a5, a6] T (0, 0))) : At7 ⟨g, 0, none⟩ (.agg #[a0, a1, a2, a3, a4, a5, a6]) w := by
  have hc : ∀ j, w.cell? ⟨g, j, none⟩ = (#[a0, a1, a2, a3, a4, a5, a6] : Array Value)[j]? := fun j => by simp [World.cell?, h]
  exact ⟨_, _, _, _, _, _, _, rfl, hc 0, hc 1, hc 2, hc 3, hc 4, hc 5, hc 6⟩
def ZC (B ga gb : Nat) : Nat → Prop := fun k => k < B ∨ k = ga ∨ k = gb
theorem zc_zp {B ga gb : Nat} {ca cb : Array Value} {w : World} (hB : B ≤ w.heap.size) (h1 : w.heap[ga]? = some (.cells ca 31 (0, 0))) (h2 : w.heap[gb]? = some (.cells cb 31 (0, 0))) : ZP B (ZC B ga gb) w := by
  intro k hk
  rcases hk with hk | rfl | rfl
  · exact ⟨by omega, fun h => by omega⟩
  · exact ⟨(Array.getElem?_eq_some_iff.1 h1).1, fun _ ho => by
      obtain ⟨cur, ho | ho⟩ := ho <;> (rw [h1] at ho; simp at ho)⟩
  · exact ⟨(Array.getElem?_eq_some_iff.1 h2).1, fun _ ho => by
      obtain ⟨cur, ho | ho⟩ := ho <;> (rw [h2] at ho; simp at ho)⟩
theorem cstart {B g g2 cap2 : Nat} {a0 a1 a2 a3 a4 a5 a6 b0 b1 b2 b3 b4 b5 b6 v u x y : Value} {m : Nat} {xs : List Value} {w w2 : World} (hB : B ≤ g) (hW : WkO g a0 a1 a2 a3 a4 a5 a6 b0 b1 b2 b3 b4 b5 b6 v w) (hO : w.ownsRow B 63 2 u m xs) (hg : w.grownBy w2 u.ownBlock) (hown : w2.ownsRow B 63 2 (.slice (some ⟨g2, 0, none⟩) 1 cap2) 1 [x, y]) :
    ∀ w3, w3 = w2.setCell ⟨g, 14, none⟩ (.slice (some ⟨g2, 0, none⟩) 1 cap2) → WkO g a0 a1 a2 a3 a4 a5 a6 b0 b1 b2 b3 b4 b5 b6 (.slice (some ⟨g2, 0, none⟩) 1 cap2) w3 ∧ w3.ownsRow B 63 2 (.slice (some ⟨g2, 0, none⟩) 1 cap2) 1 [x, y] ∧ Wr B w w3 := by
  rintro w3 rfl
  have h1 := hW.of_block (hg.block g hW.lt (fun e => (own_ne hW hO g e.symm).1 rfl))
  have ho := only_set w2 g 14 (.slice (some ⟨g2, 0, none⟩) 1 cap2)
  have hk : Kept (fun k => u.ownBlock = some k) w w2 := Kept.of_grown hg (fun k hk => hk)
  refine ⟨h1.setv _, own_block hown (fun k hk => ho.2.2 k (own_ne h1 hown k hk).1), ?_⟩
  exact (Wr.of_kept hk (fun k _ hk => by
    obtain ⟨_, _, _, _, _, hb⟩ := own_shape2 hO
    obtain ⟨h1, _, cur, h3⟩ := hb k hk
    exact ⟨h1, cur, .inr h3⟩)).trans (Wr.at ho hB h1.own)
theorem Wr.term {B k : Nat} {c : Array Value} {w w' : World} (h : Wr B w w') (hk : w.heap[k]? = some (.cells c 31 (0, 0))) : w'.heap[k]? = some (.cells c 31 (0, 0)) :=
  (h.block k (Array.getElem?_eq_some_iff.1 hk).1 (fun _ ho => by
    obtain ⟨cur, ho | ho⟩ := ho <;> (rw [hk] at ho; simp at ho))).trans hk
def ShutO (p : Prop) : Prop := p
theorem shutO {p : Prop} (h : p) : ShutO p := h
theorem ShutO.out {p : Prop} (h : ShutO p) : p := h
set_option maxHeartbeats 4000000 in
set_option maxRecDepth 8000 in
theorem wcompare_w (B g : Nat) (A U : Tm) (va vb v : Value) (m : Nat) (xs : List Value) (w : World) (hB : B ≤ g) (hE : WkE g v w) (hO : w.ownsRow B 63 2 v m xs)
    (hA : TV (fun k => k < B) w A va) (hU : TV (fun k => k < B) w U vb) (hwA : wfT A) (hwU : wfT U) (hd : dep A ≤ 1000000) (hT : Tabs w) (hG : 0 < B ∧ 1 < B) :
    Calls Tryd.prog 27 #[.pointer (some ⟨g, 0, none⟩), va, vb] w fun e w' => e = .returned (.int .i64 (cT A U)) ∧ (∃ v' m' xs', WkE g v' w' ∧ w'.ownsRow B 63 2 v' m' xs') ∧ Wr B w w' := by
  obtain ⟨a0, a1, a2, a3, a4, a5, a6, b0, b1, b2, b3, b4, b5, b6, hW⟩ := hE
  obtain ⟨R, hR⟩ : ∃ R, cT A U = R := ⟨_, rfl⟩
  rw [hR]
  have HR := hid hR
  clear hR
  cases A with | mk k neg d nm n l b =>
  cases U with | mk k' neg' d' nm' n' l' b' =>
  have HA := hid hA
  have HU := hid hU
  have Hw := hid (And.intro hwA hwU)
  unfold TV at hA hU
  obtain ⟨od, cd, ol, cl, ob, cb, rfl, _⟩ := hA
  obtain ⟨od', cd', ol', cl', ob', cb', rfl, _⟩ := hU
  clear hwA hwU
  obtain ⟨o5, cap, rfl, _⟩ := own_shape2 hO
  have hO0 := own_none hO
  have hgl := hW.lt
  have hrow0 : ∀ k, Value.ownBlock (.slice o5 0 cap) = some k → ¬ w.heap.size ≤ k := fun k hk => by have := (own_ne hW hO0 k hk).2; omega
  obtain ⟨kA, kB, hB0, hz0⟩ := bx2 w (.int .i64 k) (.bool neg) (.slice od d.length cd) (.string nm) (.int .i64 n) (.slice ol l.length cl) (.slice ob b.length cb) (.int .i64 k') (.bool neg') (.slice od' d'.length cd') (.string nm') (.int .i64 n') (.slice ol' l'.length cl') (.slice ob' b'.length cb') 31 31
  have hW0 := hW.below hB0
  have hOw0 := own_block (w' := ((w.alloc (.cells #[.int .i64 k, .bool neg, .slice od d.length cd, .string nm, .int .i64 n, .slice ol l.length cl, .slice ob b.length cb] 31)).alloc (.cells #[.int .i64 k', .bool neg', .slice od' d'.length cd', .string nm', .int .i64 n', .slice ol' l'.length cl', .slice ob' b'.length cb'] 31))) hO0 (fun k hk => hB0.block k (own_ne hW hO0 k hk).2)
  go_enter Tryd.func27, Tryd.ntmps27
  go_wp2_with fail
  generalize ((w.alloc (.cells #[.int .i64 k, .bool neg, .slice od d.length cd, .string nm, .int .i64 n, .slice ol l.length cl, .slice ob b.length cb] 31)).alloc (.cells #[.int .i64 k', .bool neg', .slice od' d'.length cd', .string nm', .int .i64 n', .slice ol' l'.length cl', .slice ob' b'.length cb'] 31)) = W0 at *
  have dW : Below W0.heap.size W0 W0.drew := (Below.refl _ W0).drew
  have hB1 := below_and hB0 (Nat.le_refl _) dW
  have hz1 : W0.drew.heap.size = w.heap.size + 2 := hz0
  have hW1 := hW0.below dW
  have hO1 : W0.drew.ownsRow B 63 2 (.slice o5 0 cap) 0 [] := own_block hOw0 (fun k hk => rfl)
  have kA1 := kA.below dW
  have kB1 := kB.below dW
  clear hB0 hz0 hW0 hOw0 kA kB hO hO0 dW
  have hS : Hid (∀ w', Below W0.drew.heap.size W0.drew w' → (w'.cell? ⟨w.heap.size, 0, none⟩ = some (.int .i64 k) ∧ w'.cell? ⟨w.heap.size, 1, none⟩ = some (.bool neg) ∧ w'.cell? ⟨w.heap.size, 2, none⟩ = some (.slice od d.length cd) ∧ w'.cell? ⟨w.heap.size, 3, none⟩ = some (.string nm) ∧ w'.cell? ⟨w.heap.size, 4, none⟩ = some (.int .i64 n) ∧ w'.cell? ⟨w.heap.size, 5, none⟩ = some (.slice ol l.length cl) ∧ w'.cell? ⟨w.heap.size, 6, none⟩ = some (.slice ob b.length cb) ∧ w'.cell? ⟨w.heap.size + 1, 0, none⟩ = some (.int .i64 k') ∧ w'.cell? ⟨w.heap.size + 1, 1, none⟩ = some (.bool neg') ∧ w'.cell? ⟨w.heap.size + 1, 2, none⟩ = some (.slice od' d'.length cd') ∧ w'.cell? ⟨w.heap.size + 1, 3, none⟩ = some (.string nm') ∧ w'.cell? ⟨w.heap.size + 1, 4, none⟩ = some (.int .i64 n') ∧ w'.cell? ⟨w.heap.size + 1, 5, none⟩ = some (.slice ol' l'.length cl') ∧ w'.cell? ⟨w.heap.size + 1, 6, none⟩ = some (.slice ob' b'.length cb'))) := hid (fun w' hb => by
    obtain ⟨t0, t1, t2, t3, t4, t5, t6⟩ := (kA1.below hb).res
    obtain ⟨u0, u1, u2, u3, u4, u5, u6⟩ := (kB1.below hb).res
    exact ⟨t0, t1, t2, t3, t4, t5, t6, u0, u1, u2, u3, u4, u5, u6⟩)
  have hSb : Hid (∀ w' : World, (w'.heap[w.heap.size]? = W0.drew.heap[w.heap.size]? ∧ w'.heap[w.heap.size + 1]? = W0.drew.heap[w.heap.size + 1]?) → (w'.cell? ⟨w.heap.size, 0, none⟩ = some (.int .i64 k) ∧ w'.cell? ⟨w.heap.size, 1, none⟩ = some (.bool neg) ∧ w'.cell? ⟨w.heap.size, 2, none⟩ = some (.slice od d.length cd) ∧ w'.cell? ⟨w.heap.size, 3, none⟩ = some (.string nm) ∧ w'.cell? ⟨w.heap.size, 4, none⟩ = some (.int .i64 n) ∧ w'.cell? ⟨w.heap.size, 5, none⟩ = some (.slice ol l.length cl) ∧ w'.cell? ⟨w.heap.size, 6, none⟩ = some (.slice ob b.length cb) ∧ w'.cell? ⟨w.heap.size + 1, 0, none⟩ = some (.int .i64 k') ∧ w'.cell? ⟨w.heap.size + 1, 1, none⟩ = some (.bool neg') ∧ w'.cell? ⟨w.heap.size + 1, 2, none⟩ = some (.slice od' d'.length cd') ∧ w'.cell? ⟨w.heap.size + 1, 3, none⟩ = some (.string nm') ∧ w'.cell? ⟨w.heap.size + 1, 4, none⟩ = some (.int .i64 n') ∧ w'.cell? ⟨w.heap.size + 1, 5, none⟩ = some (.slice ol' l'.length cl') ∧ w'.cell? ⟨w.heap.size + 1, 6, none⟩ = some (.slice ob' b'.length cb'))) := hid (fun w' hb => by
    obtain ⟨t0, t1, t2, t3, t4, t5, t6⟩ := (kA1.of_block hb.1).res
    obtain ⟨u0, u1, u2, u3, u4, u5, u6⟩ := (kB1.of_block hb.2).res
    exact ⟨t0, t1, t2, t3, t4, t5, t6, u0, u1, u2, u3, u4, u5, u6⟩)
  have hrow : ∀ k, Value.ownBlock (.slice o5 0 cap) = some k → ¬ w.heap.size ≤ k := hrow0
  obtain ⟨i0, hi, hy⟩ := Option.map_eq_some_iff.1 infoP
  injection hy with hy0 hy
  injection hy with hy1 hy2
  refine wp_region_held_drew (S := fun w' => w'.cell? ⟨w.heap.size, 0, none⟩ = some (.int .i64 k) ∧ w'.cell? ⟨w.heap.size, 1, none⟩ = some (.bool neg) ∧ w'.cell? ⟨w.heap.size, 2, none⟩ = some (.slice od d.length cd) ∧ w'.cell? ⟨w.heap.size, 3, none⟩ = some (.string nm) ∧ w'.cell? ⟨w.heap.size, 4, none⟩ = some (.int .i64 n) ∧ w'.cell? ⟨w.heap.size, 5, none⟩ = some (.slice ol l.length cl) ∧ w'.cell? ⟨w.heap.size, 6, none⟩ = some (.slice ob b.length cb) ∧ w'.cell? ⟨w.heap.size + 1, 0, none⟩ = some (.int .i64 k') ∧ w'.cell? ⟨w.heap.size + 1, 1, none⟩ = some (.bool neg') ∧ w'.cell? ⟨w.heap.size + 1, 2, none⟩ = some (.slice od' d'.length cd') ∧ w'.cell? ⟨w.heap.size + 1, 3, none⟩ = some (.string nm') ∧ w'.cell? ⟨w.heap.size + 1, 4, none⟩ = some (.int .i64 n') ∧ w'.cell? ⟨w.heap.size + 1, 5, none⟩ = some (.slice ol' l'.length cl') ∧ w'.cell? ⟨w.heap.size + 1, 6, none⟩ = some (.slice ob' b'.length cb')) (by kernel_rfl) (by exact hS.out _ (Below.refl _ _)) (fun hHeld => ?_)
  generalize W0.drew = V at *
  refine wpAnyH_take (i := 0) (oi := _) (v := ?_) rfl (by kernel_rfl) (by kernel_rfl) (by kernel_rfl) (fun _ _ _ h => h) (Or.inl ⟨by rfl, ?_⟩) (by assumption) ?_
  rotate_left 1
  · (intro w hSw; (try dsimp only at hSw); go_simp; try with_reducible rfl)
  try simp (maxSteps := 10000000) only [List.getElem_toArray, List.getElem_cons_succ, List.getElem_cons_zero, Act.put, List.setIfInBounds_toArray, List.set_cons_zero, List.set_cons_succ]
  refine wpAnyH_take (i := 1) (oi := _) (v := ?_) rfl (by kernel_rfl) (by kernel_rfl) (by kernel_rfl) (fun _ _ _ h => h) (Or.inl ⟨by rfl, ?_⟩) (by assumption) ?_
  rotate_left 1
  · (intro w hSw; (try dsimp only at hSw); go_simp; try with_reducible rfl)
  try simp (maxSteps := 10000000) only [List.getElem_toArray, List.getElem_cons_succ, List.getElem_cons_zero, Act.put, List.setIfInBounds_toArray, List.set_cons_zero, List.set_cons_succ]
  refine wpAnyH_take (i := 2) (oi := _) (v := ?_) rfl (by kernel_rfl) (by kernel_rfl) (by kernel_rfl) (fun _ _ _ h => h) (Or.inl ⟨by rfl, ?_⟩) (by assumption) ?_
  rotate_left 1
  · (intro w hSw; (try dsimp only at hSw); go_simp; try with_reducible rfl)
  try simp (maxSteps := 10000000) only [List.getElem_toArray, List.getElem_cons_succ, List.getElem_cons_zero, Act.put, List.setIfInBounds_toArray, List.set_cons_zero, List.set_cons_succ]
  refine wpAnyH_take (i := 3) (oi := _) (v := ?_) rfl (by kernel_rfl) (by kernel_rfl) (by kernel_rfl) (fun _ _ _ h => h) (Or.inl ⟨by rfl, ?_⟩) (by assumption) ?_
  rotate_left 1
  · (intro w hSw; (try dsimp only at hSw); go_simp; try with_reducible rfl)
  try simp (maxSteps := 10000000) only [List.getElem_toArray, List.getElem_cons_succ, List.getElem_cons_zero, Act.put, List.setIfInBounds_toArray, List.set_cons_zero, List.set_cons_succ]
  refine wpAnyH_take (i := 6) (oi := _) (v := ?_) rfl (by kernel_rfl) (by kernel_rfl) (by kernel_rfl) (fun _ _ _ h => h) (Or.inl ⟨by rfl, ?_⟩) (by assumption) ?_
  rotate_left 1
  · (intro w hSw; (try dsimp only at hSw); go_simp; try with_reducible rfl)
  try simp (maxSteps := 10000000) only [List.getElem_toArray, List.getElem_cons_succ, List.getElem_cons_zero, Act.put, List.setIfInBounds_toArray, List.set_cons_zero, List.set_cons_succ]
  refine wpAnyH_take (i := 8) (oi := _) (v := ?_) rfl (by kernel_rfl) (by kernel_rfl) (by kernel_rfl) (fun _ _ _ h => h) (Or.inl ⟨by rfl, ?_⟩) (by assumption) ?_
  rotate_left 1
  · (intro w hSw; (try dsimp only at hSw); go_simp; try with_reducible rfl)
  try simp (maxSteps := 10000000) only [List.getElem_toArray, List.getElem_cons_succ, List.getElem_cons_zero, Act.put, List.setIfInBounds_toArray, List.set_cons_zero, List.set_cons_succ]
  refine wpAnyH_at (m' := 10) (listed' := #[true, true, true, true, false, false, true, false, true, false, false, false, false, false, false, false]) (by kernel_rfl) (by kernel_rfl) ?_
  refine wpAnyH_name fun a0 ha0 => ?_
  refine wpAnyH_inv9 (A := fun s => (((((a0.put (some 12) s.x1).put (some 13) s.x3).put (some 15) s.x4).put (some 17) s.x5).put (some 18) s.x6).put (some 19) s.x7) (R := R9 V (.slice o5 m cap) (.slice o5 0 cap) #[.int .i64 k, .bool neg, .slice od d.length cd, .string nm, .int .i64 n, .slice ol l.length cl, .slice ob b.length cb] #[.int .i64 k', .bool neg', .slice od' d'.length cd', .string nm', .int .i64 n', .slice ol' l'.length cl', .slice ob' b'.length cb']) ?_ (fun s w h => h.ok) ?_ ?_ ?_ ?_ ?_ ?_ ?_ _ _ undef undef undef undef undef undef ?_ ?_
  · kernel_rfl
  · intro s w' hR h0
    have hc := (hW1.below hR.bel).rv
    refine wpOp_step rfl (fun K' hK => ?_)
    have hK' := shutO hK
    clear hK
    subst ha0
    simp only [Act.put, List.setIfInBounds_toArray, List.set_cons_zero, List.set_cons_succ]
    go_simp
    refine hK'.out _ _ ⟨_, ?_, hR.c1, hS.out _ hR.bel⟩
    rfl
  · intro s w' hR h0 he
    obtain ⟨l1, l3, l4, l5, l6, l7, x1, x3, x4, x5, x6, x7⟩ := s
    have hx1 : x1 = .slice o5 m cap := hR.h1 he
    subst hx1
    refine wpOp_step rfl (fun K' hK => ?_)
    have hK' := shutO hK
    clear hK
    subst ha0
    simp only [Act.put, List.setIfInBounds_toArray, List.set_cons_zero, List.set_cons_succ]
    go_simp
    refine hK'.out _ _ ⟨_, ?_, hR.c3 he, hS.out _ hR.bel⟩
    rfl
  · intro s w' hR h0
    refine wpOp_step rfl (fun K' hK => ?_)
    have hK' := shutO hK
    clear hK
    subst ha0
    simp only [Act.put, List.setIfInBounds_toArray, List.set_cons_zero, List.set_cons_succ]
    go_simp
    refine hK'.out _ _ ⟨_, ?_, hR.n4 h0, hS.out _ (hR.n4 h0).bel⟩
    rfl
  · intro s w' hR h0
    refine wpOp_step rfl (fun K' hK => ?_)
    have hK' := shutO hK
    clear hK
    subst ha0
    simp only [Act.put, List.setIfInBounds_toArray, List.set_cons_zero, List.set_cons_succ]
    go_simp
    refine hK'.out _ _ ⟨_, ?_, hR.n5 h0, hS.out _ (hR.n5 h0).bel⟩
    rfl
  · intro s w' hR h0 e4 e5
    obtain ⟨l1, l3, l4, l5, l6, l7, x1, x3, x4, x5, x6, x7⟩ := s
    obtain ⟨ga, hga, _⟩ := hR.h4 e4
    obtain ⟨gb, hgb, _⟩ := hR.h5 e5
    dsimp only at hga hgb
    subst hga
    subst hgb
    refine wpOp_step rfl (fun K' hK => ?_)
    have hK' := shutO hK
    clear hK
    subst ha0
    simp only [Act.put, List.setIfInBounds_toArray, List.set_cons_zero, List.set_cons_succ]
    go_simp
    refine hK'.out _ _ ⟨_, ?_, hR.c6 e4 e5 h0, hS.out _ hR.bel⟩
    rfl
  · intro s w' hR h0 e6
    obtain ⟨l1, l3, l4, l5, l6, l7, x1, x3, x4, x5, x6, x7⟩ := s
    have hx6 : x6 = .agg #[x4, x5] := hR.h6 e6
    subst hx6
    have hok := hR.ok
    have e4 : l4 = true := by
      have e6' : l6 = true := e6
      subst e6'
      simp [St9.ok] at hok
      exact hok.2.1
    have e5 : l5 = true := by
      have e6' : l6 = true := e6
      subst e6'
      simp [St9.ok] at hok
      exact hok.2.2
    obtain ⟨ga, hga, _⟩ := hR.h4 e4
    obtain ⟨gb, hgb, _⟩ := hR.h5 e5
    dsimp only at hga hgb
    subst hga
    subst hgb
    clear hok e4 e5
    refine wpOp_step rfl (fun K' hK => ?_)
    have hK' := shutO hK
    clear hK
    subst ha0
    simp only [Act.put, List.setIfInBounds_toArray, List.set_cons_zero, List.set_cons_succ]
    go_simp
    refine hK'.out _ _ ⟨_, ?_, hR.n7 e6, hS.out _ (hR.n7 e6).bel⟩
    rfl
  · intro x1 x3 x4 x5 x6 x7 w' hR
    obtain rfl := hR.h1 rfl
    obtain rfl := hR.h3 rfl
    have hx6 := hR.h6 rfl
    dsimp only at hx6
    subst hx6
    obtain ⟨ga, rfl, na, ka⟩ := hR.h4 rfl
    obtain ⟨gb, rfl, nb, kb⟩ := hR.h5 rfl
    obtain ⟨gr, rfl, nr, kr⟩ := hR.h7 rfl
    have hb0 := hR.bel
    clear hR
    subst ha0
    try simp only [Act.put, List.setIfInBounds_toArray, List.set_cons_zero, List.set_cons_succ]
    have kW' := hW1.below hb0
    have hO' : w'.ownsRow B 63 2 (.slice o5 0 cap) 0 [] := own_block hO1 (fun k hk => hb0.block k (own_ne hW1 hO1 k hk).2)
    have hcr : ∀ (j : Nat) (u : Value), [Value.slice (some ⟨ga, 0, none⟩) 1 1, .slice (some ⟨gb, 0, none⟩) 1 1][j]? = some u → w'.cell? ((⟨gr, 0, none⟩ : Addr).add j) = some u := by
      intro j u hj
      match j, hj with
      | 0, hj =>
        simp only [List.getElem?_cons_zero, Option.some.injEq] at hj
        subst hj
        rw [add_zero]
        simp [World.cell?, kr]
      | 1, hj =>
        simp only [List.getElem?_cons_zero, List.getElem?_cons_succ, Option.some.injEq] at hj
        subst hj
        show w'.cell? ⟨gr, 0 + 1, none⟩ = _
        simp [World.cell?, kr]
      | (j + 2), hj => simp at hj
    have hone : ∀ u ∈ [Value.slice (some ⟨ga, 0, none⟩) 1 1, .slice (some ⟨gb, 0, none⟩) 1 1], u.oneCell' = true := by
      intro u hu
      simp only [List.mem_cons, List.not_mem_nil, or_false] at hu
      rcases hu with rfl | rfl <;> rfl
    refine wpAnyH_ready (rs := [12]) (by kernel_rfl) (by simp) ?_
    refine AllReadyH.cons rfl (fun K hK => ?_) AllReadyH.nil
    refine step_append_lies _ rfl _ _ 57 rfl B 63 i0 (.agg #[.slice none 0 0, .slice none 0 0]) 2 48 Tryd.underlying57 hi hy0 hy1 hy2 rfl (by decide) (.slice o5 0 cap) 0 [] rfl hO' ⟨gr, 0, none⟩ 1 1 [.slice (some ⟨ga, 0, none⟩) 1 1, .slice (some ⟨gb, 0, none⟩) 1 1] rfl rfl hcr hone (by decide) (by unfold maxLen; omega) (by omega) (by have := hb0.size; omega) w'.heap.size rfl (fun g2 cap2 w2 hown hgrow hg2 hlt2 => ?_)
    have hst3 := cstart hB kW' hO' hgrow (by simpa using hown)
    have q2 : w2.heap[w.heap.size]? = V.heap[w.heap.size]? ∧ w2.heap[w.heap.size + 1]? = V.heap[w.heap.size + 1]? := ⟨(hgrow.block _ (by have := hb0.size; omega) (fun e => hrow _ e.symm (Nat.le_refl _))).trans (hb0.block _ (by omega)), (hgrow.block _ (by have := hb0.size; omega) (fun e => hrow _ e.symm (by omega))).trans (hb0.block _ (by omega))⟩
    have hcg : ∃ x, w2.cell? ⟨g, 14, none⟩ = some x := ⟨_, (kW'.of_block (hgrow.block g kW'.lt (fun e => (own_ne kW' hO' g e.symm).1 rfl))).rv⟩
    have hfg : ∀ j, w2.frozen? ⟨g, j, none⟩ = false := (kW'.of_block (hgrow.block g kW'.lt (fun e => (own_ne kW' hO' g e.symm).1 rfl))).fr
    obtain ⟨xg, hxg⟩ := hcg
    refine hK.out _ _ ?_ (fun hHeld => ?_)
    · first | exact hS.out _ (by assumption) | exact hSb.out _ (by assumption)
    clear hK K
    try simp (maxSteps := 10000000) only [List.getElem_toArray, List.getElem_cons_succ, List.getElem_cons_zero, Act.put, List.setIfInBounds_toArray, List.set_cons_zero, List.set_cons_succ]
    refine wpAnyH_take (i := 13) (oi := _) (v := ?_) rfl (by kernel_rfl) (by kernel_rfl) (by kernel_rfl) (fun _ _ _ h => h) (Or.inl ⟨by rfl, ?_⟩) (by assumption) ?_
    rotate_left 1
    · (intro w hSw; (try dsimp only at hSw); go_simp; try with_reducible rfl)
    try simp (maxSteps := 10000000) only [List.getElem_toArray, List.getElem_cons_succ, List.getElem_cons_zero, Act.put, List.setIfInBounds_toArray, List.set_cons_zero, List.set_cons_succ]
    refine wpAnyH_take (i := 14) (oi := _) (v := ?_) rfl (by kernel_rfl) (by kernel_rfl) (by kernel_rfl) (fun _ _ _ h => h) (Or.inl ⟨by rfl, ?_⟩) (by assumption) ?_
    rotate_left 1
    · (intro w hSw; (try dsimp only at hSw); go_simp; try with_reducible rfl)
    try simp (maxSteps := 10000000) only [List.getElem_toArray, List.getElem_cons_succ, List.getElem_cons_zero, Act.put, List.setIfInBounds_toArray, List.set_cons_zero, List.set_cons_succ]
    refine wpAnyH_ready (rs := [15]) (by kernel_rfl) (by simp) ?_
    refine AllReadyH.cons rfl (fun K hK => ?_) AllReadyH.nil
    go_simp
    generalize hw3 : w2.setCell ⟨g, 14, none⟩ (.slice (some ⟨g2, 0, none⟩) 1 cap2) = w3
    have q3 : w3.heap[w.heap.size]? = V.heap[w.heap.size]? ∧ w3.heap[w.heap.size + 1]? = V.heap[w.heap.size + 1]? := by
      rw [← hw3]
      exact ⟨((only_set w2 g 14 (.slice (some ⟨g2, 0, none⟩) 1 cap2)).2.2 _ (by omega)).trans q2.1, ((only_set w2 g 14 (.slice (some ⟨g2, 0, none⟩) 1 cap2)).2.2 _ (by omega)).trans q2.2⟩
    try go_simp
    refine hK.out _ _ ?_ (fun hHeld => ?_)
    · first | exact hS.out _ (by assumption) | exact hSb.out _ (by assumption)
    clear hK K
    try simp (maxSteps := 10000000) only [List.getElem_toArray, List.getElem_cons_succ, List.getElem_cons_zero, Act.put, List.setIfInBounds_toArray, List.set_cons_zero, List.set_cons_succ]
    refine wpAnyH_done (by kernel_rfl) ?_ _
    obtain ⟨kW3, kO3, kwr3⟩ := hst3 w3 hw3.symm
    clear hst3 hw3 hxg hfg hown hgrow hg2 hlt2 q2 q3 hcr hone kr nr hHeld
    have kwrV : Wr B w w' := (Wr.of_below hB1).trans (Wr.of_below hb0)
    have kwr := kwrV.trans kwr3
    have ka3 := kwr3.term ka
    have kb3 := kwr3.term kb
    have hBw : B ≤ w.heap.size := by omega
    have hB3 : B ≤ w3.heap.size := Nat.le_trans hBw kwr.size
    have hZ3 := zc_zp hB3 ka3 kb3
    have hTB : ∀ wx, Wr B w wx → Tabs wx := fun wx hx => hT.low hG (hx.low hBw)
    have hzA : Zs (fun k => k < B) w w3 := fun k hk => (kwr.low hBw).block k hk
    have hSt3 : StO (ZC B ga gb) w3 1000000 [⟨some ⟨ga, 0, none⟩, 1, [.mk k neg d nm n l b], some ⟨gb, 0, none⟩, 1, [.mk k' neg' d' nm' n' l' b']⟩] := by
      refine ⟨⟨by simp, rfl, by simp, by simp, ?_, ?_, Hw.out.1 |> fun h => wfL.cons h wfL.nil, wfL.cons Hw.out.2 wfL.nil, by simpa [depL] using hd⟩, trivial⟩
      · show TR _ _ [Tm.mk k neg d nm n l b] (some ⟨ga, 0, none⟩)
        unfold TR
        exact ⟨_, _, rfl, .inr (.inl rfl), at7_block ka3, TV.mono (fun k _ h => .inl h) _ _ (TV.zs hzA _ _ HA.out), by unfold TR; trivial⟩
      · show TR _ _ [Tm.mk k' neg' d' nm' n' l' b'] (some ⟨gb, 0, none⟩)
        unfold TR
        exact ⟨_, _, rfl, .inr (.inr rfl), at7_block kb3, TV.mono (fun k _ h => .inl h) _ _ (TV.zs hzA _ _ HU.out), by unfold TR; trivial⟩
    have hc3 : cSt [⟨some ⟨ga, 0, none⟩, 1, [.mk k neg d nm n l b], some ⟨gb, 0, none⟩, 1, [.mk k' neg' d' nm' n' l' b']⟩] = R := by
      show lx (cR [Tm.mk k neg d nm n l b] [Tm.mk k' neg' d' nm' n' l' b']) 0 = R
      rw [lx_right, cR_cons, cR_nil, lx_right, HR.out]
    have HC := hid hc3
    have HS := hid hSt3
    have HO := hid (show w3.ownsRow B 63 2 (.slice (some ⟨g2, 0, none⟩) 1 cap2) 1 (rpv [⟨some ⟨ga, 0, none⟩, 1, [.mk k neg d nm n l b], some ⟨gb, 0, none⟩, 1, [.mk k' neg' d' nm' n' l' b']⟩]) by simpa [rpv] using kO3)
    have HE := hid kW3.e
    have HZ := hid hZ3
    have HT := hid hTB
    clear hc3 hSt3 kO3 kW3 hZ3 hTB hS hSb hrow hB1 hz1 hW1 hO1 kA1 kB1 na nb ka kb hb0 kW' hO' kwr3 kwrV ka3 kb3 hzA hd hT hG
    obtain ⟨st0, hst0⟩ : ∃ st0 : List Rp, [⟨some ⟨ga, 0, none⟩, 1, [Tm.mk k neg d nm n l b], some ⟨gb, 0, none⟩, 1, [Tm.mk k' neg' d' nm' n' l' b']⟩] = st0 := ⟨_, rfl⟩
    rw [hst0] at HC HS HO
    have hl0 : Hid (st0.length = 1) := hid (by rw [← hst0]; rfl)
    clear hst0
    go_wp2_with fail
    go_loopg [7] (mSt st0 + 1) (fun t v7 wr => ∃ (x : Int) (st : List Rp) (lv : Nat) (v : Value), t = (if x = 0 then mSt st + 1 else 0) ∧ v7 = .int .i64 x ∧ WkE g v wr ∧ wr.ownsRow B 63 2 v st.length (rpv st) ∧ StO (ZC B ga gb) wr lv st ∧ st.length + lv ≤ 1000001 ∧ Wr B w wr ∧ ZP B (ZC B ga gb) wr ∧ Hid ((x ≠ 0 → R = x) ∧ (x = 0 → R = cSt st)))
    case atStart =>
      exact ⟨0, st0, 1000000, _, by rw [if_pos rfl], rfl, HE.out, by rw [hl0.out]; exact HO.out, HS.out, by rw [hl0.out]; exact Nat.le_refl _, kwr, HZ.out, hid ⟨fun h => absurd rfl h, fun _ => HC.out.symm⟩⟩
    case round =>
      obtain ⟨x, st, lv, v, rfl, rfl, hE, hOr, hSt, hle, hwr, hzp, hH⟩ := hrel
      clear HE HO HS HC HZ kwr hl0
      by_cases hx : x = 0
      case neg =>
        have f1 : (x == 0) = false := by simpa using hx
        have Hx := hid hx
        clear hx
        go_wp2
        go_ret
        exact ⟨by rw [hH.out.1 Hx.out]; rfl, ⟨_, _, _, hE, hOr⟩, hwr⟩
      subst hx
      obtain ⟨oq, cq, rfl, _⟩ := own_shape2 hOr
      have hE' := hE
      obtain ⟨_, _, _, _, _, _, _, _, _, _, _, _, _, _, hWq⟩ := hE'
      have hcq := hWq.rv
      have hRc := hid (hH.out.2 rfl)
      clear hH
      clear hWq
      cases st with
      | nil =>
        have HE := hid hE
        clear hE
        simp only [List.length_nil] at *
        go_wp2
        go_ret
        exact ⟨by rw [hRc.out]; rfl, ⟨_, _, _, HE.out, hOr⟩, hwr⟩
      | cons r st =>
        have HN := hid (next_w B g (ZC B ga gb) _ r st lv wr hB hE hOr hSt hle hzp (fun wx hx => HT.out wx (hwr.trans hx)))
        have hps : (0 : Int) < (st.length : Int) + 1 := by omega
        clear hE hOr hSt hle
        simp only [List.length_cons] at *
        go_wp2_with fail
        refine HN.out.mono ?_
        rintro e w4 ⟨x', st', lv', v', rfl, hE', hO', hSt', hle', hwr', hx1, hx2⟩
        have Hx := hid (And.intro hx1 hx2)
        clear hx1 hx2 hcq
        go_wp2
        go_roundg (if x' = 0 then mSt st' + 1 else 0)
        case measure =>
          by_cases h : x' = 0
          · have := (Hx.out.2 h).2; rw [if_pos h]; omega
          · rw [if_neg h]; omega
        case rel =>
          refine ⟨x', st', lv', v', rfl, rfl, hE', hO', hSt', hle', hwr.trans hwr', hwr'.zp hzp, hid ⟨fun h => ?_, fun h => ?_⟩⟩
          · rw [hRc.out]; exact Hx.out.1 h
          · rw [hRc.out]; exact (Hx.out.2 h).1
  · subst ha0; rfl
  · exact ⟨Below.refl _ _, rfl, fun h => by simp at h, fun h => by simp at h, fun h => by simp at h, fun h => by simp at h, fun h => by simp at h, fun h => by simp at h⟩
end Go.Proofs.YtpdoepjnkgffpaaDoor
