/- Texts of mine, one behind the other: CpyW, TextRdB. -/
import Derived.Test.YtjacoodfhkaioaaGreatDoorSbI
import Derived.Test.YtjacoodfhkaioaaGreatDoorSbO
import Derived.Test.YtjacoodfhkaioaaGreatDoorSbN
namespace Go.Proofs.YtjacoodfhkaioaaGreatDoor
open Go.ChangeShapes Go.WideShapes Go.ChangeAt Go.ChangeMaps Go.RowKit Go.Shelf
set_option linter.unusedSimpArgs false
set_option linter.unusedVariables false
set_option maxRecDepth 2000
theorem kids_fair {k : Int} {neg : Bool} {d : List Nat} {nm : ByteArray} {n : Int} {l : List Tm} {b : List Nat} (h : fairB (.mk k neg d nm n l b) = true) : (Tm.mk k neg d nm n l b).kids = l := by
  unfold fairB at h
  rw [Bool.and_eq_true] at h
  obtain ⟨h2, _⟩ := h
  by_cases hk : k = 4 ∨ k = 6
  · simp [Tm.kids, hk]
  · have e : ∃ k' neg' d' nm' n' b', prT (.mk k neg d nm n l b) = .mk k' neg' d' nm' n' [] b' := by
      unfold prT
      dsimp only
      by_cases k0 : k = 0
      · simp [k0]
      by_cases k1 : k = 1
      · simp [k1]
      by_cases k2 : k = 2
      · simp [k2]
      by_cases k3 : k = 3
      · simp [k3]
      by_cases k7 : k = 7
      · simp [k7]
      have k4 : k ≠ 4 := fun e => hk (.inl e)
      have k6 : k ≠ 6 := fun e => hk (.inr e)
      simp [k0, k1, k2, k3, k4, k6, k7]
    obtain ⟨k', neg', d', nm', n', b', e⟩ := e
    unfold leanB at h2
    rw [e] at h2
    unfold eqF at h2
    simp only [Bool.and_eq_true, decide_eq_true_eq] at h2
    have h3 := h2.1.2
    have : l = [] := List.eq_nil_of_length_eq_zero (by simpa using h3)
    subst this
    simp [Tm.kids]
theorem heap_put7 {w : World} {g : Nat} {a0 a1 a2 a3 a4 a5 a6 : Value} {T : TypeId} (h : w.heap[g]? = some (.cells #[a0, a1, a2, a3, a4, a5, a6] T (0, 0))) (b0 b1 b2 b3 b4 b5 b6 : Value) :
    (((((((w.setCell ⟨g, 0, none⟩ b0).setCell ⟨g, 1, none⟩ b1).setCell ⟨g, 2, none⟩ b2).setCell ⟨g, 3, none⟩ b3).setCell ⟨g, 4, none⟩ b4).setCell ⟨g, 5, none⟩ b5).setCell ⟨g, 6, none⟩ b6).heap[g]? = some (.cells #[b0, b1, b2, b3, b4, b5, b6] T (0, 0)) := by
  have q0 : (w.setCell ⟨g, 0, none⟩ b0).heap[g]? = some (.cells #[b0, a1, a2, a3, a4, a5, a6] T (0, 0)) := heap_setc h b0
  generalize w.setCell ⟨g, 0, none⟩ b0 = w0 at *
  have q1 : (w0.setCell ⟨g, 1, none⟩ b1).heap[g]? = some (.cells #[b0, b1, a2, a3, a4, a5, a6] T (0, 0)) := heap_setc q0 b1
  generalize w0.setCell ⟨g, 1, none⟩ b1 = w1 at *
  have q2 : (w1.setCell ⟨g, 2, none⟩ b2).heap[g]? = some (.cells #[b0, b1, b2, a3, a4, a5, a6] T (0, 0)) := heap_setc q1 b2
  generalize w1.setCell ⟨g, 2, none⟩ b2 = w2 at *
  have q3 : (w2.setCell ⟨g, 3, none⟩ b3).heap[g]? = some (.cells #[b0, b1, b2, b3, a4, a5, a6] T (0, 0)) := heap_setc q2 b3
  generalize w2.setCell ⟨g, 3, none⟩ b3 = w3 at *
  have q4 : (w3.setCell ⟨g, 4, none⟩ b4).heap[g]? = some (.cells #[b0, b1, b2, b3, b4, a5, a6] T (0, 0)) := heap_setc q3 b4
  generalize w3.setCell ⟨g, 4, none⟩ b4 = w4 at *
  have q5 : (w4.setCell ⟨g, 5, none⟩ b5).heap[g]? = some (.cells #[b0, b1, b2, b3, b4, b5, a6] T (0, 0)) := heap_setc q4 b5
  generalize w4.setCell ⟨g, 5, none⟩ b5 = w5 at *
  exact heap_setc q5 b6
theorem res7 {w : World} {g : Nat} {a0 a1 a2 a3 a4 a5 a6 : Value} {T : TypeId} (h : w.heap[g]? = some (.cells #[a0, a1, a2, a3, a4, a5, a6] T (0, 0))) : Bx g a0 a1 a2 a3 a4 a5 a6 w := by
  have hc : ∀ j, w.cell? ⟨g, j, none⟩ = (#[a0, a1, a2, a3, a4, a5, a6] : Array Value)[j]? := fun j => by simp [World.cell?, h]
  exact ⟨hc 0, hc 1, hc 2, hc 3, hc 4, hc 5, hc 6, fun j => by simp [World.frozen?, h]⟩
theorem own_trz {Z : Nat → Prop} {w : World} {B c : Nat} {o : Option Addr} {l : List Tm} {xs : List Value} (h : w.ownsRow B 27 7 (.slice o l.length c) l.length xs) (hR : RC Z w l xs) (hZ : ∀ g, o = some ⟨g, 0, none⟩ → B ≤ g → g < w.heap.size → Z g) : TR Z w l o := by
  obtain ⟨h1, ⟨h2, h3⟩ | ⟨g, cap, cur, h2, hB, hg, hn, hm, hs, ht⟩⟩ := h
  · have : l = [] := List.eq_nil_of_length_eq_zero h3
    subst this
    unfold TR; trivial
  · simp only [Value.slice.injEq, true_and] at h2
    obtain ⟨rfl, rfl⟩ := h2
    refine hR.tr (fun _ => hZ g rfl hB (Array.getElem?_eq_some_iff.1 hg).1) (fun j u hj => ?_)
    rw [addr_add, Nat.zero_add]
    have hj2 : j < l.length * 7 := by rw [← h1]; exact (List.getElem?_eq_some_iff.1 hj).1
    rw [← ht, List.getElem?_take, if_pos hj2, Array.getElem?_toList] at hj
    simp [World.cell?, hg, hj]
theorem own_blk7 {w : World} {B m : Nat} {v : Value} {xs : List Value} (h : w.ownsRow B 27 7 v m xs) (k : Nat) (hk : v.ownBlock = some k) : B ≤ k ∧ k < w.heap.size := by
  obtain ⟨_, ⟨h2, _⟩ | ⟨g, cap, cur, h2, hB, hg, _⟩⟩ := h
  · rw [h2] at hk; simp [Value.ownBlock] at hk
  · rw [h2] at hk
    simp only [Value.ownBlock, Option.some.injEq] at hk
    subst hk
    exact ⟨hB, (Array.getElem?_eq_some_iff.1 hg).1⟩
theorem own_blkS {w w' : World} {B s : Nat} {e : TypeId} {v : Value} {m : Nat} {xs : List Value} (h : w.ownsRow B e s v m xs) (hb : ∀ k, v.ownBlock = some k → w'.heap[k]? = w.heap[k]?) : w'.ownsRow B e s v m xs := by
  obtain ⟨h1, h2 | ⟨g', cap', cur, h2, hB, hg, rest⟩⟩ := h
  · exact ⟨h1, .inl h2⟩
  · exact ⟨h1, .inr ⟨g', cap', cur, h2, hB, (hb g' (by rw [h2]; rfl)).trans hg, rest⟩⟩
/-- a row of copies grows by one -/
theorem row_step {H g g2 cap2 i : Nat} {oL : Option Addr} {cL : Nat} {xs : List Value} {l : List Tm} {t : Tm} {wr w w2 w3 : World} {xk : Int} {xneg : Bool} {xod : Option Addr} {xld xcd : Nat} {xnm : ByteArray} {xn : Int} {xol : Option Addr} {xll xcl : Nat} {xob : Option Addr} {xlb xcb : Nat} (hH : H ≤ wr.heap.size) (hgH : g < H)
    (hO : wr.ownsRow H 27 7 (.slice oL i cL) i xs) (hRC : RC (Zq H (.slice oL i cL) wr) wr l xs) (hb : Below wr.heap.size wr w) (hT : TV (Zb wr.heap.size w) w t (tmV xk xneg (.slice xod xld xcd) xnm xn (.slice xol xll xcl) (.slice xob xlb xcb)))
    (hg : w.grownBy w2 (Value.ownBlock (.slice oL i cL))) (hg2 : Value.ownBlock (.slice oL i cL) = some g2 ∨ g2 = w.heap.size) (hown : w2.ownsRow H 27 7 (.slice (some ⟨g2, 0, none⟩) (i + 1) cap2) (i + 1) (xs ++ [.int .i64 xk, .bool xneg, .slice xod xld xcd, .string xnm, .int .i64 xn, .slice xol xll xcl, .slice xob xlb xcb])) (ho : Only g w2 w3) :
    w3.ownsRow H 27 7 (.slice (some ⟨g2, 0, none⟩) (i + 1) cap2) (i + 1) (xs ++ [.int .i64 xk, .bool xneg, .slice xod xld xcd, .string xnm, .int .i64 xn, .slice xol xll xcl, .slice xob xlb xcb]) ∧ RC (Zq H (.slice (some ⟨g2, 0, none⟩) (i + 1) cap2) w3) w3 (l ++ [t]) (xs ++ [.int .i64 xk, .bool xneg, .slice xod xld xcd, .string xnm, .int .i64 xn, .slice xol xll xcl, .slice xob xlb xcb]) := by
  have hown' := own_blk7 hO
  have hs := hb.size
  have hs2 := hg.size
  have hs3 : w3.heap.size = w2.heap.size := ho.2.1
  have hg2' : ∀ k, Zq H (.slice oL i cL) wr k → g2 ≠ k := fun k hk e => by
    rcases hg2 with h | h
    · exact hk.2.2 (by rw [h, e])
    · have := hk.2.1; omega
  have hg2n : g2 ≠ g := fun e => by
    rcases hg2 with h | h
    · have := (hown' g2 h).1; omega
    · omega
  refine ⟨own_blkS hown (fun k hk => ho.2.2 k (by simp only [Value.ownBlock, Option.some.injEq] at hk; omega)), ?_⟩
  have hz1 : Zs (Zq H (.slice oL i cL) wr) wr w3 := fun k hk => ((ho.2.2 k (by have := hk.1; omega)).trans (hg.block k (by have := hk.2.1; omega) (fun e => hk.2.2 e.symm))).trans (hb.block k hk.2.1)
  have hz2 : Zs (Zb wr.heap.size w) w w3 := fun k hk => (ho.2.2 k (by have := hk.1; omega)).trans (hg.block k hk.2 (fun e => by have := (hown' k e.symm).2; have := hk.1; omega))
  refine RC.snoc (TV.mono (fun k hk hz => ⟨by have := hz.1; omega, hk, ?_⟩) _ _ (TV.zs hz2 _ _ hT)) (RC.mono (fun k hk hz => ⟨hz.1, hk, ?_⟩) (hRC.zs hz1))
  · simp only [Value.ownBlock, ne_eq, Option.some.injEq]
    intro e
    rcases hg2 with h | h
    · have := (hown' g2 h).2; have := hz.1; omega
    · have := hz.2; omega
  · simp only [Value.ownBlock, ne_eq, Option.some.injEq]
    exact hg2' k hz
set_option maxHeartbeats 8000000 in
set_option maxRecDepth 8000 in
theorem rCopy_w : ∀ (N : Nat) (T : Tm) (v : Value) (w : World), tsz T ≤ N → (∀ p ∈ parts T, p.ok1 ∧ fairB p = true) → TV (Low w) w T v →
    Calls Tryz.prog 32 #[v] w fun e w' => ∃ v', e = .returned v' ∧ TV (Zb w.heap.size w') w' T v' ∧ Below w.heap.size w w' := by
  intro N
  induction N with
  | zero => intro T v w h; cases T; simp only [tsz] at h; omega
  | succ N ih =>
  intro T v w hN hok hT
  obtain ⟨hok1, hfair⟩ := hok T (by rw [parts_eq]; simp)
  cases T with | mk tk tneg td tnm tn tl tb =>
  obtain ⟨hd1, hn1, hll, hb1, hm1⟩ : td.length ≤ 1000000 ∧ tnm.size ≤ 1000000 ∧ tl.length ≤ 1000000 ∧ tb.length ≤ 1000000 ∧ Lm 4294967296 td := hok1
  have hkl := kids_fair hfair
  have hok2 : Hid (∀ p ∈ partsL tl, p.ok1 ∧ fairB p = true) := hid (fun p hp => hok p (by rw [parts_eq, hkl]; simp [hp]))
  unfold TV at hT
  obtain ⟨tod, tcd, tol, tcl, tob, tcb, rfl, g1, g2, g3, g4, g5, g6, g7⟩ := hT
  have htR := hid g7
  have hg4 := hid g4
  have hIH := hid ih
  clear ih g7 hok hfair hkl g5
  obtain ⟨kA, kB, hB0, hz0⟩ := bx2 w (.int .i64 tk) (.bool tneg) (.slice tod td.length tcd) (.string tnm) (.int .i64 tn) (.slice tol tl.length tcl) (.slice tob tb.length tcb) (.int .i64 0) (.bool false) nilS (.string noS) (.int .i64 0) nilS nilS 27 27
  obtain ⟨iD, hD0, hD1, hD2, hD3⟩ := info_parts info32u
  obtain ⟨iB, hB1', hB2', hB3', hB4'⟩ := info_parts info8
  obtain ⟨iT, hT1, hT2, hT3, hT4⟩ := info_parts infoT
  have hR00 := heap_alloc_new (w.alloc (.cells #[.int .i64 tk, .bool tneg, .slice tod td.length tcd, .string tnm, .int .i64 tn, .slice tol tl.length tcl, .slice tob tb.length tcb] 27)) (.cells zC 27)
  rw [World.size_alloc] at hR00
  go_enter Tryz.func32, Tryz.ntmps32
  go_wp2_with fail
  generalize ((w.alloc (.cells #[.int .i64 tk, .bool tneg, .slice tod td.length tcd, .string tnm, .int .i64 tn, .slice tol tl.length tcl, .slice tob tb.length tcb] 27)).alloc (.cells #[.int .i64 0, .bool false, .slice none 0 0, .string { data := #[] }, .int .i64 0, .slice none 0 0, .slice none 0 0] 27)) = W0 at *
  have dW : Below W0.heap.size W0 W0.drew := (Below.refl _ W0).drew
  have hB1 := below_and hB0 (Nat.le_refl _) dW
  have hz1 : W0.drew.heap.size = w.heap.size + 2 := hz0
  have kA1 := kA.below dW
  have kB1 := kB.below dW
  have hR0 : W0.drew.heap[w.heap.size + 1]? = some (.cells zC 27 (0, 0)) := hR00
  clear hB0 hz0 kA kB dW hR00
  have hS : Hid (∀ w', Below W0.drew.heap.size W0.drew w' → (w'.cell? ⟨w.heap.size, 0, none⟩ = some (.int .i64 tk) ∧ w'.cell? ⟨w.heap.size, 1, none⟩ = some (.bool tneg) ∧ w'.cell? ⟨w.heap.size, 2, none⟩ = some (.slice tod td.length tcd) ∧ w'.cell? ⟨w.heap.size, 3, none⟩ = some (.string tnm) ∧ w'.cell? ⟨w.heap.size, 4, none⟩ = some (.int .i64 tn) ∧ w'.cell? ⟨w.heap.size, 5, none⟩ = some (.slice tol tl.length tcl) ∧ w'.cell? ⟨w.heap.size, 6, none⟩ = some (.slice tob tb.length tcb))) := hid (fun w' hb => (kA1.below hb).res)
  have hDl := hid (fun w' (hb : Below W0.drew.heap.size W0.drew w') => (g1.zs (fun k hk => (below_and hB1 (by omega) hb).block k hk)).lc)
  have hBl := hid (fun w' (hb : Below W0.drew.heap.size W0.drew w') => (hg4.out.1.zs (fun k hk => (below_and hB1 (by omega) hb).block k hk)).lc)
  have hr0 : Below W0.drew.heap.size W0.drew W0.drew := Below.refl _ _
  clear g1 g4
  refine wp_region_held_drew (S := fun w' => w'.cell? ⟨w.heap.size, 0, none⟩ = some (.int .i64 tk) ∧ w'.cell? ⟨w.heap.size, 1, none⟩ = some (.bool tneg) ∧ w'.cell? ⟨w.heap.size, 2, none⟩ = some (.slice tod td.length tcd) ∧ w'.cell? ⟨w.heap.size, 3, none⟩ = some (.string tnm) ∧ w'.cell? ⟨w.heap.size, 4, none⟩ = some (.int .i64 tn) ∧ w'.cell? ⟨w.heap.size, 5, none⟩ = some (.slice tol tl.length tcl) ∧ w'.cell? ⟨w.heap.size, 6, none⟩ = some (.slice tob tb.length tcb)) (by kernel_rfl) (by exact hS.out _ hr0) (fun hHeld => ?_)
  generalize W0.drew = V at *
  refine wpAnyH_take (i := 0) (oi := _) (v := ?_) rfl (by kernel_rfl) (by kernel_rfl) (by kernel_rfl) (fun _ _ _ h => h) (Or.inl ⟨by rfl, ?_⟩) (by assumption) ?_
  rotate_left 1
  · (intro w hSw; (try dsimp only at hSw); go_simp; try with_reducible rfl)
  try simp (maxSteps := 10000000) only [List.getElem_toArray, List.getElem_cons_succ, List.getElem_cons_zero, Act.put, List.setIfInBounds_toArray, List.set_cons_zero, List.set_cons_succ]
  refine wpAnyH_take (i := 1) (oi := _) (v := ?_) rfl (by kernel_rfl) (by kernel_rfl) (by kernel_rfl) (fun _ _ _ h => h) (Or.inl ⟨by rfl, ?_⟩) (by assumption) ?_
  rotate_left 1
  · (intro w hSw; (try dsimp only at hSw); go_simp; try with_reducible rfl)
  try simp (maxSteps := 10000000) only [List.getElem_toArray, List.getElem_cons_succ, List.getElem_cons_zero, Act.put, List.setIfInBounds_toArray, List.set_cons_zero, List.set_cons_succ]
  refine wpAnyH_take (i := 2) (oi := _) (v := ?_) rfl (by kernel_rfl) (by kernel_rfl) (by kernel_rfl) (fun _ _ _ h => h) (Or.inl ⟨by rfl, ?_⟩) (by assumption) ?_
  rotate_left 1
  · (intro w hSw; (try dsimp only at hSw); go_simp; try with_reducible rfl)
  try simp (maxSteps := 10000000) only [List.getElem_toArray, List.getElem_cons_succ, List.getElem_cons_zero, Act.put, List.setIfInBounds_toArray, List.set_cons_zero, List.set_cons_succ]
  refine wpAnyH_take (i := 3) (oi := _) (v := ?_) rfl (by kernel_rfl) (by kernel_rfl) (by kernel_rfl) (fun _ _ _ h => h) (Or.inl ⟨by rfl, ?_⟩) (by assumption) ?_
  rotate_left 1
  · (intro w hSw; (try dsimp only at hSw); go_simp; try with_reducible rfl)
  try simp (maxSteps := 10000000) only [List.getElem_toArray, List.getElem_cons_succ, List.getElem_cons_zero, Act.put, List.setIfInBounds_toArray, List.set_cons_zero, List.set_cons_succ]
  refine wpAnyH_take (i := 4) (oi := _) (v := ?_) rfl (by kernel_rfl) (by kernel_rfl) (by kernel_rfl) (fun _ _ _ h => h) (Or.inl ⟨by rfl, ?_⟩) (by assumption) ?_
  rotate_left 1
  · (intro w hSw; (try dsimp only at hSw); go_simp; try with_reducible rfl)
  try simp (maxSteps := 10000000) only [List.getElem_toArray, List.getElem_cons_succ, List.getElem_cons_zero, Act.put, List.setIfInBounds_toArray, List.set_cons_zero, List.set_cons_succ]
  refine wpAnyH_take (i := 5) (oi := _) (v := ?_) rfl (by kernel_rfl) (by kernel_rfl) (by kernel_rfl) (fun _ _ _ h => h) (Or.inl ⟨by rfl, ?_⟩) (by assumption) ?_
  rotate_left 1
  · (intro w hSw; (try dsimp only at hSw); go_simp; try with_reducible rfl)
  try simp (maxSteps := 10000000) only [List.getElem_toArray, List.getElem_cons_succ, List.getElem_cons_zero, Act.put, List.setIfInBounds_toArray, List.set_cons_zero, List.set_cons_succ]
  refine wpAnyH_take (i := 6) (oi := _) (v := ?_) rfl (by kernel_rfl) (by kernel_rfl) (by kernel_rfl) (fun _ _ _ h => h) (Or.inl ⟨by rfl, ?_⟩) (by assumption) ?_
  rotate_left 1
  · (intro w hSw; (try dsimp only at hSw); go_simp; try with_reducible rfl)
  try simp (maxSteps := 10000000) only [List.getElem_toArray, List.getElem_cons_succ, List.getElem_cons_zero, Act.put, List.setIfInBounds_toArray, List.set_cons_zero, List.set_cons_succ]
  refine wpAnyH_take (i := 7) (oi := _) (v := ?_) rfl (by kernel_rfl) (by kernel_rfl) (by kernel_rfl) (fun _ _ _ h => h) (Or.inl ⟨by rfl, ?_⟩) (by assumption) ?_
  rotate_left 1
  · (intro w hSw; (try dsimp only at hSw); go_simp; try with_reducible rfl)
  try simp (maxSteps := 10000000) only [List.getElem_toArray, List.getElem_cons_succ, List.getElem_cons_zero, Act.put, List.setIfInBounds_toArray, List.set_cons_zero, List.set_cons_succ]
  refine wpAnyH_take (i := 8) (oi := _) (v := ?_) rfl (by kernel_rfl) (by kernel_rfl) (by kernel_rfl) (fun _ _ _ h => h) (Or.inl ⟨by rfl, ?_⟩) (by assumption) ?_
  rotate_left 1
  · (intro w hSw; (try dsimp only at hSw); go_simp; try with_reducible rfl)
  try simp (maxSteps := 10000000) only [List.getElem_toArray, List.getElem_cons_succ, List.getElem_cons_zero, Act.put, List.setIfInBounds_toArray, List.set_cons_zero, List.set_cons_succ]
  refine wpAnyH_take (i := 9) (oi := _) (v := ?_) rfl (by kernel_rfl) (by kernel_rfl) (by kernel_rfl) (fun _ _ _ h => h) (Or.inl ⟨by rfl, ?_⟩) (by assumption) ?_
  rotate_left 1
  · (intro w hSw; (try dsimp only at hSw); go_simp; try with_reducible rfl)
  try simp (maxSteps := 10000000) only [List.getElem_toArray, List.getElem_cons_succ, List.getElem_cons_zero, Act.put, List.setIfInBounds_toArray, List.set_cons_zero, List.set_cons_succ]
  refine wpAnyH_take (i := 11) (oi := _) (v := ?_) rfl (by kernel_rfl) (by kernel_rfl) (by kernel_rfl) (fun _ _ _ h => h) (Or.inl ⟨by rfl, ?_⟩) (by assumption) ?_
  rotate_left 1
  · (intro w hSw; (try dsimp only at hSw); go_simp; try with_reducible rfl)
  try simp (maxSteps := 10000000) only [List.getElem_toArray, List.getElem_cons_succ, List.getElem_cons_zero, Act.put, List.setIfInBounds_toArray, List.set_cons_zero, List.set_cons_succ]
  refine wpAnyH_take (i := 12) (oi := _) (v := ?_) rfl (by kernel_rfl) (by kernel_rfl) (by kernel_rfl) (fun _ _ _ h => h) (Or.inl ⟨by rfl, ?_⟩) (by assumption) ?_
  rotate_left 1
  · (intro w hSw; (try dsimp only at hSw); go_simp; try with_reducible rfl)
  try simp (maxSteps := 10000000) only [List.getElem_toArray, List.getElem_cons_succ, List.getElem_cons_zero, Act.put, List.setIfInBounds_toArray, List.set_cons_zero, List.set_cons_succ]
  refine wpAnyH_at (m' := 5) (listed' := #[true, true, true, true, true, true, true, true, true, true, false, true, true, false, false, false, false]) (by kernel_rfl) (by kernel_rfl) ?_
  refine wpAnyH_name fun a0 ha0 => ?_
  refine wpAnyH_cp (A := fun s => (((a0.put (some 15) s.x10).put (some 18) s.x13).put (some 19) s.x14).put (some 3) s.x15) (R := Rcp V w.heap.size tk tneg td tnm tn tb) ?_ (fun s w h => h.ok) ?_ ?_ ?_ ?_ ?_ _ _ undef undef undef undef ?_ ?_
  · kernel_rfl
  · intro s w' hR h0
    obtain ⟨vD, w3, hr3, hO3, b3⟩ := ap_run 23 145 iD (.int .u32 0) 1 4 Tryz.underlying23 hD0 hD1 hD2 hD3 rfl (by decide) w' tod tcd td.length (lim td) (by simp) (fun u hu => by obtain ⟨x, _, rfl⟩ := List.mem_map.1 hu; rfl) hd1 (by omega) (hDl.out _ hR.bel)
    refine wpOp_step rfl (fun K' hK => ?_)
    have hK' := shutO hK
    clear hK
    subst ha0
    refine step_append_run rfl _ _ 23 rfl (.slice none 0 0) (.slice tod td.length tcd) vD w3 rfl rfl hr3 ?_
    refine hK'.out _ _ ⟨_, ?_, hR.c10 h0 (by omega) hO3 b3, hS.out _ (hR.c10 h0 (by omega) hO3 b3).bel⟩
    rfl
  · intro s w' hR h0
    obtain ⟨vD, w3, hr3, hO3, b3⟩ := ap_run 25 5 iB (.int .u8 0) 1 1 Tryz.underlying25 hB1' hB2' hB3' hB4' rfl (by decide) w' tob tcb tb.length (bts tb) (by simp) (fun u hu => by obtain ⟨x, _, rfl⟩ := List.mem_map.1 hu; rfl) hb1 (by omega) (hBl.out _ hR.bel)
    refine wpOp_step rfl (fun K' hK => ?_)
    have hK' := shutO hK
    clear hK
    subst ha0
    refine step_append_run rfl _ _ 25 rfl (.slice none 0 0) (.slice tob tb.length tcb) vD w3 rfl rfl hr3 ?_
    refine hK'.out _ _ ⟨_, ?_, hR.c13 h0 (by omega) hO3 b3, hS.out _ (hR.c13 h0 (by omega) hO3 b3).bel⟩
    rfl
  · intro s w' hR h0 e10 e13
    obtain ⟨l10, l13, l14, l15, x10, x13, x14, x15⟩ := s
    obtain ⟨o1, c1, hx10, _⟩ := hR.h10 e10
    obtain ⟨o2, c2, hx13, _⟩ := hR.h13 e13
    dsimp only at hx10 hx13
    subst hx10
    subst hx13
    refine wpOp_step rfl (fun K' hK => ?_)
    have hK' := shutO hK
    clear hK
    subst ha0
    simp only [Act.put, List.setIfInBounds_toArray, List.set_cons_zero, List.set_cons_succ]
    go_simp
    refine hK'.out _ _ ⟨_, ?_, hR.c14 e10 e13, hS.out _ hR.bel⟩
    rfl
  · intro s w' hR h0
    refine wpOp_step rfl (fun K' hK => ?_)
    have hK' := shutO hK
    clear hK
    subst ha0
    simp only [Act.put, List.setIfInBounds_toArray, List.set_cons_zero, List.set_cons_succ]
    go_simp
    refine hK'.out _ _ ⟨_, ?_, hR.c15, hS.out _ hR.c15.bel⟩
    rfl
  · intro x10 x13 x14 x15 w' hR
    obtain ⟨oD, cD, hx10, hcD, hLD⟩ := hR.h10 rfl
    obtain ⟨oB, cB, hx13, hcB, hLB⟩ := hR.h13 rfl
    have hx14 := hR.h14 rfl
    obtain ⟨g, hx15, ng, kg⟩ := hR.h15 rfl
    have hb0 := hR.bel
    clear hR
    dsimp only at hx10 hx13 hx14 hx15
    subst hx10
    subst hx13
    subst hx14
    subst hx15
    subst ha0
    try simp only [Act.put, List.setIfInBounds_toArray, List.set_cons_zero, List.set_cons_succ]
    have kG : Bx g (.int .i64 0) (.bool false) nilS (.string noS) (.int .i64 0) nilS nilS w' := by
      have hc : ∀ j, w'.cell? ⟨g, j, none⟩ = (zC : Array Value)[j]? := fun j => by simp [World.cell?, kg]
      exact ⟨hc 0, hc 1, hc 2, hc 3, hc 4, hc 5, hc 6, fun j => by simp [World.frozen?, kg]⟩
    obtain ⟨u0, u1, u2, u3, u4, u5, u6⟩ := kG.res
    have uf := kG.fr
    refine wpAnyH_ready (rs := [16]) (by kernel_rfl) (by simp) ?_
    refine AllReadyH.cons rfl (fun K hK => ?_) AllReadyH.nil
    go_simp
    have onG := only_put w' g (.int .i64 tk) (.bool tneg) (.slice oD td.length cD) (.string tnm) (.int .i64 tn) nilS (.slice oB tb.length cB)
    have hgA : (((((((w'.setCell ⟨g, 0, none⟩ (.int .i64 tk)).setCell ⟨g, 1, none⟩ (.bool tneg)).setCell ⟨g, 2, none⟩ (.slice oD td.length cD)).setCell ⟨g, 3, none⟩ (.string tnm)).setCell ⟨g, 4, none⟩ (.int .i64 tn)).setCell ⟨g, 5, none⟩ nilS).setCell ⟨g, 6, none⟩ (.slice oB tb.length cB)).heap[g]? = some (.cells #[.int .i64 tk, .bool tneg, .slice oD td.length cD, .string tnm, .int .i64 tn, nilS, .slice oB tb.length cB] 27 (0, 0)) := heap_put7 kg (.int .i64 tk) (.bool tneg) (.slice oD td.length cD) (.string tnm) (.int .i64 tn) nilS (.slice oB tb.length cB)
    clear u0 u1 u2 u3 u4 u5 u6 uf
    generalize (((((((w'.setCell ⟨g, 0, none⟩ (.int .i64 tk)).setCell ⟨g, 1, none⟩ (.bool tneg)).setCell ⟨g, 2, none⟩ (.slice oD td.length cD)).setCell ⟨g, 3, none⟩ (.string tnm)).setCell ⟨g, 4, none⟩ (.int .i64 tn)).setCell ⟨g, 5, none⟩ nilS).setCell ⟨g, 6, none⟩ (.slice oB tb.length cB)) = wA at *
    have bA : Below V.heap.size V wA := hb0.trans (onG.below (B := V.heap.size) ng)
    try go_simp
    refine hK.out _ _ ?_ (fun hHeld => ?_)
    · first | exact hS.out _ (by assumption) | exact qs3 | exact qs2
    clear hK K
    try simp (maxSteps := 10000000) only [List.getElem_toArray, List.getElem_cons_succ, List.getElem_cons_zero, Act.put, List.setIfInBounds_toArray, List.set_cons_zero, List.set_cons_succ]
    refine wpAnyH_done (by kernel_rfl) ?_ _
    have LD := zt_on hLD (NT.of_only onG kg)
    have LB := zt_on hLB (NT.of_only onG kg)
    have hgl : g < wA.heap.size := (Array.getElem?_eq_some_iff.1 hgA).1
    have hSw : w.heap.size + 2 ≤ wA.heap.size := by have := bA.size; omega
    have HD := hid LD
    have HB := hid LB
    have HM := hid (And.intro hm1 hg4.out.2)
    clear hLD hLB onG kg kG hS hDl hBl hr0 hHeld hg4 LD LB hm1
    have hng := ng
    go_wp2_with fail
    go_loopg [4] tl.length (fun t v4 wr => ∃ (i : Nat) (vL : Value) (xs : List Value), t + i = tl.length ∧ v4 = .int .i64 (i : Int) ∧ wr.heap[g]? = some (.cells #[.int .i64 tk, .bool tneg, .slice oD td.length cD, .string tnm, .int .i64 tn, vL, .slice oB tb.length cB] 27 (0, 0)) ∧ wr.ownsRow wA.heap.size 27 7 vL i xs ∧ RC (Zq wA.heap.size vL wr) wr (tl.take i) xs ∧ NT wA wr ∧ Below V.heap.size V wr ∧ wA.heap.size ≤ wr.heap.size)
    case atStart => exact ⟨0, nilS, [], by omega, rfl, hgA, World.ownsRow_nil _ _ _ _, rfl, NT.refl _, bA, Nat.le_refl _⟩
    case round =>
      obtain ⟨i, vL, xs, hti, rfl, hgr, hOw, hRC, hnt, hbV, hsz⟩ := hrel
      clear hgA bA
      obtain ⟨oL, cL, rfl, hcL⟩ := own_sl hOw
      have kA2 := kA1.below hbV
      have kG2 := res7 hgr
      by_cases hil : i < tl.length
      · have hii : ((i : Nat) : Int) < ((tl.length : Nat) : Int) := by omega
        obtain ⟨t, ht⟩ : ∃ t, tl[i]? = some t := ⟨tl[i], by simp [hil]⟩
        have hBw : Below w.heap.size w wr := hB1.trans (below_le hbV (by omega))
        obtain ⟨pa, pk, pneg, pod, pld, pcd, pnm, pn, pol, pll, pcl, pob, plb, pcb, hpa, hTp, y0, y1, y2, y3, y4, y5, y6⟩ := htR.out.get ht hBw
        subst hpa
        have hszt : tsz t ≤ N := by have := tsz_mem ht; simp only [tsz] at hN; omega
        have hokt : ∀ p ∈ parts t, p.ok1 ∧ fairB p = true := fun p hp => hok2.out p (mem_partsL ht hp)
        have htk : Hid (tl.take (i + 1) = tl.take i ++ [t]) := hid (by rw [List.take_add_one, ht]; rfl)
        clear ht hBw
        have dV5 : Below wr.heap.size wr wr.drew := (Below.refl _ wr).drew
        have hO3 : wr.drew.ownsRow wA.heap.size 27 7 (.slice oL i cL) i xs := own_blkS hOw (fun k hk => rfl)
        have hRC3 : RC (Zq wA.heap.size (.slice oL i cL) wr.drew) wr.drew (tl.take i) xs := RC.mono (fun k hk hz => hz) (RC.zs (Z := Zq wA.heap.size (.slice oL i cL) wr) (w := wr) (w' := wr.drew) (fun k hk => rfl) hRC)
        have hgr3 : wr.drew.heap[g]? = some (.cells #[.int .i64 tk, .bool tneg, .slice oD td.length cD, .string tnm, .int .i64 tn, .slice oL i cL, .slice oB tb.length cB] 27 (0, 0)) := hgr
        have hnt3 := hnt.trans (NT.of_below dV5)
        have hbV3 : Below V.heap.size V wr.drew := hbV.drew
        have hsz3 : wA.heap.size ≤ wr.drew.heap.size := hsz
        have hTp3 := tv_below hTp dV5
        have hpl : pa.block < w.heap.size := by
          have h1 := htR.out
          cases tl with
          | nil => simp at hil
          | cons q qs =>
            unfold TR at h1
            obtain ⟨a, _, e, h2, _⟩ := h1
            injection e with e
            rw [e]; exact h2
        have hSk : Hid (∀ w' : World, (∀ k, k < w.heap.size + 1 → w'.heap[k]? = wr.drew.heap[k]?) → (w'.cell? ⟨w.heap.size, 0, none⟩ = some (.int .i64 tk) ∧ w'.cell? ⟨w.heap.size, 1, none⟩ = some (.bool tneg) ∧ w'.cell? ⟨w.heap.size, 2, none⟩ = some (.slice tod td.length tcd) ∧ w'.cell? ⟨w.heap.size, 3, none⟩ = some (.string tnm) ∧ w'.cell? ⟨w.heap.size, 4, none⟩ = some (.int .i64 tn) ∧ w'.cell? ⟨w.heap.size, 5, none⟩ = some (.slice (some pa) tl.length tcl) ∧ w'.cell? ⟨w.heap.size, 6, none⟩ = some (.slice tob tb.length tcb) ∧ w'.cell? (pa.add (i * 7)) = some (.int .i64 pk) ∧ w'.cell? ⟨(pa.add (i * 7)).block, (pa.add (i * 7)).off + 1, none⟩ = some (.bool pneg) ∧ w'.cell? ⟨(pa.add (i * 7)).block, (pa.add (i * 7)).off + 2, none⟩ = some (.slice pod pld pcd) ∧ w'.cell? ⟨(pa.add (i * 7)).block, (pa.add (i * 7)).off + 3, none⟩ = some (.string pnm) ∧ w'.cell? ⟨(pa.add (i * 7)).block, (pa.add (i * 7)).off + 4, none⟩ = some (.int .i64 pn) ∧ w'.cell? ⟨(pa.add (i * 7)).block, (pa.add (i * 7)).off + 5, none⟩ = some (.slice pol pll pcl) ∧ w'.cell? ⟨(pa.add (i * 7)).block, (pa.add (i * 7)).off + 6, none⟩ = some (.slice pob plb pcb))) := hid (fun w' hb => by
          obtain ⟨x0, x1, x2, x3, x4, x5, x6⟩ := (kA2.of_block (w' := w') (hb _ (by omega))).res
          have q : ∀ {a : Addr} {v : Value}, a.block = pa.block → wr.cell? a = some v → w'.cell? a = some v := fun e h => (World.cell?_of_block (hb _ (by rw [e]; omega))).trans h
          exact ⟨x0, x1, x2, x3, x4, x5, x6, q (block_add _ _) y0, q (block_add _ _) y1, q (block_add _ _) y2, q (block_add _ _) y3, q (block_add _ _) y4, q (block_add _ _) y5, q (block_add _ _) y6⟩)
        have hS : Hid (∀ w', Below wr.drew.heap.size wr.drew w' → (w'.cell? ⟨w.heap.size, 0, none⟩ = some (.int .i64 tk) ∧ w'.cell? ⟨w.heap.size, 1, none⟩ = some (.bool tneg) ∧ w'.cell? ⟨w.heap.size, 2, none⟩ = some (.slice tod td.length tcd) ∧ w'.cell? ⟨w.heap.size, 3, none⟩ = some (.string tnm) ∧ w'.cell? ⟨w.heap.size, 4, none⟩ = some (.int .i64 tn) ∧ w'.cell? ⟨w.heap.size, 5, none⟩ = some (.slice (some pa) tl.length tcl) ∧ w'.cell? ⟨w.heap.size, 6, none⟩ = some (.slice tob tb.length tcb) ∧ w'.cell? (pa.add (i * 7)) = some (.int .i64 pk) ∧ w'.cell? ⟨(pa.add (i * 7)).block, (pa.add (i * 7)).off + 1, none⟩ = some (.bool pneg) ∧ w'.cell? ⟨(pa.add (i * 7)).block, (pa.add (i * 7)).off + 2, none⟩ = some (.slice pod pld pcd) ∧ w'.cell? ⟨(pa.add (i * 7)).block, (pa.add (i * 7)).off + 3, none⟩ = some (.string pnm) ∧ w'.cell? ⟨(pa.add (i * 7)).block, (pa.add (i * 7)).off + 4, none⟩ = some (.int .i64 pn) ∧ w'.cell? ⟨(pa.add (i * 7)).block, (pa.add (i * 7)).off + 5, none⟩ = some (.slice pol pll pcl) ∧ w'.cell? ⟨(pa.add (i * 7)).block, (pa.add (i * 7)).off + 6, none⟩ = some (.slice pob plb pcb))) := hid (fun w' hb => hSk.out w' (fun k hk => hb.block k (by omega)))
        obtain ⟨x0, x1, x2, x3, x4, x5, x6⟩ := kA2.res
        clear hRC hOw hgr hnt hbV hsz hTp dV5 kG2 y0 y1 y2 y3 y4 y5 y6
        go_wp2_with fail
        clear x0 x1 x2 x3 x4 x5 x6 kA2
        refine wp_region_held_drew (S := fun w' => w'.cell? ⟨w.heap.size, 0, none⟩ = some (.int .i64 tk) ∧ w'.cell? ⟨w.heap.size, 1, none⟩ = some (.bool tneg) ∧ w'.cell? ⟨w.heap.size, 2, none⟩ = some (.slice tod td.length tcd) ∧ w'.cell? ⟨w.heap.size, 3, none⟩ = some (.string tnm) ∧ w'.cell? ⟨w.heap.size, 4, none⟩ = some (.int .i64 tn) ∧ w'.cell? ⟨w.heap.size, 5, none⟩ = some (.slice (some pa) tl.length tcl) ∧ w'.cell? ⟨w.heap.size, 6, none⟩ = some (.slice tob tb.length tcb) ∧ w'.cell? (pa.add (i * 7)) = some (.int .i64 pk) ∧ w'.cell? ⟨(pa.add (i * 7)).block, (pa.add (i * 7)).off + 1, none⟩ = some (.bool pneg) ∧ w'.cell? ⟨(pa.add (i * 7)).block, (pa.add (i * 7)).off + 2, none⟩ = some (.slice pod pld pcd) ∧ w'.cell? ⟨(pa.add (i * 7)).block, (pa.add (i * 7)).off + 3, none⟩ = some (.string pnm) ∧ w'.cell? ⟨(pa.add (i * 7)).block, (pa.add (i * 7)).off + 4, none⟩ = some (.int .i64 pn) ∧ w'.cell? ⟨(pa.add (i * 7)).block, (pa.add (i * 7)).off + 5, none⟩ = some (.slice pol pll pcl) ∧ w'.cell? ⟨(pa.add (i * 7)).block, (pa.add (i * 7)).off + 6, none⟩ = some (.slice pob plb pcb)) (by kernel_rfl) (by exact hS.out _ (Below.refl _ _)) (fun hHeld => ?_)
        generalize wr.drew = V5 at *
        refine wpAnyH_take (i := 0) (oi := _) (v := ?_) rfl (by kernel_rfl) (by kernel_rfl) (by kernel_rfl) (fun _ _ _ h => h) (Or.inl ⟨by rfl, ?_⟩) (by assumption) ?_
        rotate_left 1
        · (intro w hSw; (try dsimp only at hSw); go_simp; try with_reducible rfl)
        try simp (maxSteps := 10000000) only [List.getElem_toArray, List.getElem_cons_succ, List.getElem_cons_zero, Act.put, List.setIfInBounds_toArray, List.set_cons_zero, List.set_cons_succ]
        refine wpAnyH_take (i := 2) (oi := _) (v := ?_) rfl (by kernel_rfl) (by kernel_rfl) (by kernel_rfl) (fun _ _ _ h => h) (Or.inl ⟨by rfl, ?_⟩) (by assumption) ?_
        rotate_left 1
        · (intro w hSw; (try dsimp only at hSw); go_simp; try with_reducible rfl)
        try simp (maxSteps := 10000000) only [List.getElem_toArray, List.getElem_cons_succ, List.getElem_cons_zero, Act.put, List.setIfInBounds_toArray, List.set_cons_zero, List.set_cons_succ]
        refine wpAnyH_take (i := 3) (oi := _) (v := ?_) rfl (by kernel_rfl) (by kernel_rfl) (by kernel_rfl) (fun _ _ _ h => h) (Or.inl ⟨by rfl, ?_⟩) (by assumption) ?_
        rotate_left 1
        · (intro w hSw; (try dsimp only at hSw); go_simp; try with_reducible rfl)
        try simp (maxSteps := 10000000) only [List.getElem_toArray, List.getElem_cons_succ, List.getElem_cons_zero, Act.put, List.setIfInBounds_toArray, List.set_cons_zero, List.set_cons_succ]
        refine wpAnyH_take (i := 4) (oi := _) (v := ?_) rfl (by kernel_rfl) (by kernel_rfl) (by kernel_rfl) (fun _ _ _ h => h) (Or.inl ⟨by rfl, ?_⟩) (by assumption) ?_
        rotate_left 1
        · (intro w hSw; (try dsimp only at hSw); go_simp; try with_reducible rfl)
        try simp (maxSteps := 10000000) only [List.getElem_toArray, List.getElem_cons_succ, List.getElem_cons_zero, Act.put, List.setIfInBounds_toArray, List.set_cons_zero, List.set_cons_succ]
        refine wpAnyH_take (i := 5) (oi := _) (v := ?_) rfl (by kernel_rfl) (by kernel_rfl) (by kernel_rfl) (fun _ _ _ h => h) (Or.inl ⟨by rfl, ?_⟩) (by assumption) ?_
        rotate_left 1
        · (intro w hSw; (try dsimp only at hSw); go_simp; try with_reducible rfl)
        try simp (maxSteps := 10000000) only [List.getElem_toArray, List.getElem_cons_succ, List.getElem_cons_zero, Act.put, List.setIfInBounds_toArray, List.set_cons_zero, List.set_cons_succ]
        refine wpAnyH_take (i := 6) (oi := _) (v := ?_) rfl (by kernel_rfl) (by kernel_rfl) (by kernel_rfl) (fun _ _ _ h => h) (Or.inl ⟨by rfl, ?_⟩) (by assumption) ?_
        rotate_left 1
        · (intro w hSw; (try dsimp only at hSw); go_simp; try with_reducible rfl)
        try simp (maxSteps := 10000000) only [List.getElem_toArray, List.getElem_cons_succ, List.getElem_cons_zero, Act.put, List.setIfInBounds_toArray, List.set_cons_zero, List.set_cons_succ]
        refine wpAnyH_at (m' := 6) (listed' := #[true, false, true, true, true, true, true, false, false, false, false, false]) (by kernel_rfl) (by kernel_rfl) ?_
        refine wpAnyH_name fun a0 ha0 => ?_
        refine wpAnyH_ap (A := fun s => ((a0.put (some 28) s.x1).put (some 34) s.x7).put (some 35) s.x8) (R := fun s w => Rap V5 (.slice oL i cL) t s.l1 s.l7 s.l8 s.x1 s.x7 s.x8 w) ?_ (fun s w h => h.ok) ?_ ?_ ?_ ?_ _ _ u28 u34 u35 ?_ ?_
        · kernel_rfl
        · intro s w' hR h0
          have hc : w'.cell? ⟨g, 5, none⟩ = some (.slice oL i cL) := (res7 (blk_on' hgr3 hR.bel)).c5
          refine wpOp_step rfl (fun K' hK => ?_)
          have hK' := shutO hK
          clear hK
          subst ha0
          simp only [Act.put, List.setIfInBounds_toArray, List.set_cons_zero, List.set_cons_succ]
          go_simp
          refine hK'.out _ _ ⟨_, ?_, hR.c1, hS.out _ hR.bel⟩
          rfl
        · intro s w' hR h0
          refine wpOp_step rfl (fun K' hK => ?_)
          have hK' := shutO hK
          clear hK
          subst ha0
          simp only [Act.put, List.setIfInBounds_toArray, List.set_cons_zero, List.set_cons_succ]
          go_simp
          refine (hIH.out t _ _ hszt hokt (tv_below hTp3 hR.bel)).mono ?_
          rintro e w7 ⟨v7, rfl, hT7, b7⟩
          try go_simp
          refine hK'.out _ _ ⟨_, ?_, hR.c7 h0 hT7 b7, hS.out _ (hR.c7 h0 hT7 b7).bel⟩
          rfl
        · intro s w' hR h0 e7
          obtain ⟨l1, l7, l8, x1, x7, x8⟩ := s
          dsimp only at hR e7 h0
          obtain ⟨xk, xneg, xod, xld, xcd, xnm, xn, xol, xll, xcl, xob, xlb, xcb, hx7, _⟩ := hR.h7 e7
          subst hx7
          refine wpOp_step rfl (fun K' hK => ?_)
          have hK' := shutO hK
          clear hK
          subst ha0
          simp only [Act.put, List.setIfInBounds_toArray, List.set_cons_zero, List.set_cons_succ]
          go_simp
          refine hK'.out _ _ ⟨_, ?_, hR.c8 e7, hS.out _ (hR.c8 e7).bel⟩
          rfl
        · intro x1 x7 x8 w5 hR
          have hx1 := hR.h1 rfl
          obtain ⟨gn, xk, xneg, xod, xld, xcd, xnm, xn, xol, xll, xcl, xob, xlb, xcb, hx7, hT5, hx8, hgn, kgn⟩ := hR.h8 rfl
          have hb5 := hR.bel
          clear hR
          dsimp only at hx1 hx7 hx8
          subst hx1
          subst hx7
          subst hx8
          subst ha0
          try simp only [Act.put, List.setIfInBounds_toArray, List.set_cons_zero, List.set_cons_succ]
          have hO5 : w5.ownsRow wA.heap.size 27 7 (.slice oL i cL) i xs := own_blkS hO3 (fun k hk => hb5.block k (own_blk7 hO3 k hk).2)
          have hg5 := blk_on' hgr3 hb5
          have hcr : ∀ (j : Nat) (u : Value), ([.int .i64 xk, .bool xneg, .slice xod xld xcd, .string xnm, .int .i64 xn, .slice xol xll xcl, .slice xob xlb xcb] : List Value)[j]? = some u → w5.cell? ((⟨gn, 0, none⟩ : Addr).add j) = some u := by
            intro j u hj
            rw [addr_add, Nat.zero_add]
            simp only [World.cell?, kgn]
            simpa using hj
          have hone : ∀ u ∈ ([.int .i64 xk, .bool xneg, .slice xod xld xcd, .string xnm, .int .i64 xn, .slice xol xll xcl, .slice xob xlb xcb] : List Value), u.oneCell' = true := by
            intro u hu
            simp only [List.mem_cons, List.not_mem_nil, or_false] at hu
            rcases hu with rfl | rfl | rfl | rfl | rfl | rfl | rfl <;> rfl
          refine wpAnyH_ready (rs := [9]) (by kernel_rfl) (by simp) ?_
          refine AllReadyH.cons rfl (fun K hK => ?_) AllReadyH.nil
          refine step_append_lies _ rfl _ _ 24 rfl wA.heap.size 27 iT (.agg #[.int .i64 0, .bool false, .slice none 0 0, .string ⟨#[]⟩, .int .i64 0, .slice none 0 0, .slice none 0 0]) 7 112 Tryz.underlying24 hT1 hT2 hT3 hT4 rfl (by decide) (.slice oL i cL) i xs rfl hO5 ⟨gn, 0, none⟩ 1 1 [.int .i64 xk, .bool xneg, .slice xod xld xcd, .string xnm, .int .i64 xn, .slice xol xll xcl, .slice xob xlb xcb] rfl rfl hcr hone (by decide) (by unfold maxLen; omega) (by omega) (by have := hb5.size; omega) w5.heap.size rfl (fun g2 cap2 w2 hown hgrow hg2 hlt2 => ?_)
          have hgg : w2.heap[g]? = w5.heap[g]? := hgrow.block g (by have := hb5.size; omega) (fun e => by have := (own_blk7 hO5 g e.symm).1; omega)
          have hg5' := hgg.trans hg5
          obtain ⟨f0, f1, f2, f3, f4, f5, f6⟩ := (res7 hg5').res
          have ff := (res7 hg5').fr
          have c5b : Below V5.heap.size V5 w2 → True := fun _ => trivial
          have q2 : ∀ k, k < V5.heap.size → k ≠ g → Value.ownBlock (.slice oL i cL) ≠ some k → w2.heap[k]? = V5.heap[k]? := fun k hk _ hn => (hgrow.block k (by have := hb5.size; omega) (fun e => hn e.symm)).trans (hb5.block k hk)
          have qs2 := hSk.out w2 (fun k hk => q2 k (by omega) (by omega) (fun e => by have := (own_blk7 hO5 k e).1; omega))
          refine hK.out _ _ ?_ (fun hHeld => ?_)
          · first | exact hS.out _ (by assumption) | exact qs3 | exact qs2
          clear hK K
          try simp (maxSteps := 10000000) only [List.getElem_toArray, List.getElem_cons_succ, List.getElem_cons_zero, Act.put, List.setIfInBounds_toArray, List.set_cons_zero, List.set_cons_succ]
          refine wpAnyH_take (i := 10) (oi := _) (v := ?_) rfl (by kernel_rfl) (by kernel_rfl) (by kernel_rfl) (fun _ _ _ h => h) (Or.inl ⟨by rfl, ?_⟩) (by assumption) ?_
          rotate_left 1
          · (intro w hSw; (try dsimp only at hSw); go_simp; try with_reducible rfl)
          try simp (maxSteps := 10000000) only [List.getElem_toArray, List.getElem_cons_succ, List.getElem_cons_zero, Act.put, List.setIfInBounds_toArray, List.set_cons_zero, List.set_cons_succ]
          refine wpAnyH_ready (rs := [11]) (by kernel_rfl) (by simp) ?_
          refine AllReadyH.cons rfl (fun K hK => ?_) AllReadyH.nil
          go_simp
          have on5 := only_set w2 g 5 (.slice (some ⟨g2, 0, none⟩) (i + 1) cap2)
          have hg6 : (w2.setCell ⟨g, 5, none⟩ (.slice (some ⟨g2, 0, none⟩) (i + 1) cap2)).heap[g]? = some (.cells #[.int .i64 tk, .bool tneg, .slice oD td.length cD, .string tnm, .int .i64 tn, .slice (some ⟨g2, 0, none⟩) (i + 1) cap2, .slice oB tb.length cB] 27 (0, 0)) := heap_setc hg5' _
          clear f0 f1 f2 f3 f4 f5 f6 ff
          generalize w2.setCell ⟨g, 5, none⟩ (.slice (some ⟨g2, 0, none⟩) (i + 1) cap2) = w3 at *
          have qs3 := hSk.out w3 (fun k hk => (on5.2.2 k (by omega)).trans (q2 k (by omega) (by omega) (fun e => by have := (own_blk7 hO5 k e).1; omega)))
          try go_simp
          refine hK.out _ _ ?_ (fun hHeld => ?_)
          · first | exact hS.out _ (by assumption) | exact qs3 | exact qs2
          clear hK K
          try simp (maxSteps := 10000000) only [List.getElem_toArray, List.getElem_cons_succ, List.getElem_cons_zero, Act.put, List.setIfInBounds_toArray, List.set_cons_zero, List.set_cons_succ]
          refine wpAnyH_done (by kernel_rfl) ?_ _
          obtain ⟨hO6, hRC6⟩ := row_step hsz3 hgl hO3 hRC3 hb5 hT5 hgrow hg2 hown on5
          have hn6 := ((hnt3.trans (NT.of_below hb5)).trans (NT.of_grown hgrow hO5)).trans (NT.of_only on5 hg5')
          have hsz6 : wA.heap.size ≤ w3.heap.size := by have := hb5.size; have := hgrow.size; have : w3.heap.size = w2.heap.size := on5.2.1; omega
          have hb6 : Below V.heap.size V w3 := (((below_and' hbV3 hbV3.size hb5).trans (⟨hgrow.os, hgrow.tape, hgrow.output, hgrow.size, fun k hk => hgrow.block k (by have := hb5.size; have := hbV3.size; omega) (fun e => by have := (own_blk7 hO5 k e.symm).1; omega)⟩ : Below V.heap.size w5 w2)).trans (on5.below (B := V.heap.size) hng))
          clear hO5 hg5 hcr hone hgrow hg2 hown hb5 hT5 q2 qs2 qs3 c5b hgg hg5' kgn hSk hS on5 hlt2
          go_wp2
          go_roundg (tl.length - (i + 1))
          case measure => omega
          case rel => exact ⟨i + 1, _, _, by omega, by go_num, hg6, hO6, by rw [htk.out]; exact hRC6, hn6, hb6, hsz6⟩
        · subst ha0; rfl
        · exact ⟨Below.refl _ _, rfl, fun h => by simp at h, fun h => by simp at h, fun h => by simp at h⟩
      · have hi2 : i = tl.length := by omega
        subst hi2
        have hii : ¬ ((tl.length : Nat) : Int) < ((tl.length : Nat) : Int) := by omega
        have kB2 := kB1.below hbV
        have hRb : wr.heap[w.heap.size + 1]? = some (.cells zC 27 (0, 0)) := (hbV.block _ (by omega)).trans hR0
        obtain ⟨x0, x1, x2, x3, x4, x5, x6⟩ := kA2.res
        obtain ⟨y0, y1, y2, y3, y4, y5, y6⟩ := kG2.res
        obtain ⟨z0, z1, z2, z3, z4, z5, z6⟩ := kB2.res
        have zf := kB2.fr
        have onR := only_put wr (w.heap.size + 1) (.int .i64 tk) (.bool tneg) (.slice oD td.length cD) (.string tnm) (.int .i64 tn) (.slice oL tl.length cL) (.slice oB tb.length cB)
        obtain ⟨r0, r1, r2, r3, r4, r5, r6⟩ := (kB2.put (b0 := .int .i64 tk) (b1 := .bool tneg) (b2 := .slice oD td.length cD) (b3 := .string tnm) (b4 := .int .i64 tn) (b5 := .slice oL tl.length cL) (b6 := .slice oB tb.length cB)).res
        have hfin : TV (Zb w.heap.size (((((((wr.setCell ⟨w.heap.size + 1, 0, none⟩ (.int .i64 tk)).setCell ⟨w.heap.size + 1, 1, none⟩ (.bool tneg)).setCell ⟨w.heap.size + 1, 2, none⟩ (.slice oD td.length cD)).setCell ⟨w.heap.size + 1, 3, none⟩ (.string tnm)).setCell ⟨w.heap.size + 1, 4, none⟩ (.int .i64 tn)).setCell ⟨w.heap.size + 1, 5, none⟩ (.slice oL tl.length cL)).setCell ⟨w.heap.size + 1, 6, none⟩ (.slice oB tb.length cB))) (((((((wr.setCell ⟨w.heap.size + 1, 0, none⟩ (.int .i64 tk)).setCell ⟨w.heap.size + 1, 1, none⟩ (.bool tneg)).setCell ⟨w.heap.size + 1, 2, none⟩ (.slice oD td.length cD)).setCell ⟨w.heap.size + 1, 3, none⟩ (.string tnm)).setCell ⟨w.heap.size + 1, 4, none⟩ (.int .i64 tn)).setCell ⟨w.heap.size + 1, 5, none⟩ (.slice oL tl.length cL)).setCell ⟨w.heap.size + 1, 6, none⟩ (.slice oB tb.length cB)) (.mk tk tneg td tnm tn tl tb) (tmV tk tneg (.slice oD td.length cD) tnm tn (.slice oL tl.length cL) (.slice oB tb.length cB)) := by
          have hsF : wr.heap.size = (((((((wr.setCell ⟨w.heap.size + 1, 0, none⟩ (.int .i64 tk)).setCell ⟨w.heap.size + 1, 1, none⟩ (.bool tneg)).setCell ⟨w.heap.size + 1, 2, none⟩ (.slice oD td.length cD)).setCell ⟨w.heap.size + 1, 3, none⟩ (.string tnm)).setCell ⟨w.heap.size + 1, 4, none⟩ (.int .i64 tn)).setCell ⟨w.heap.size + 1, 5, none⟩ (.slice oL tl.length cL)).setCell ⟨w.heap.size + 1, 6, none⟩ (.slice oB tb.length cB)).heap.size := onR.2.1.symm
          have n2 := hnt.trans (NT.of_only onR hRb)
          have qd := zt_on HD.out n2
          have qb := zt_on HB.out n2
          have toZ : ∀ (W : World) (k : Nat), k < W.heap.size → Zt w.heap.size W k → Zb w.heap.size W k := fun W k hk h => ⟨h.1, hk⟩
          have hO2 := own_blkS hOw (fun k hk => onR.2.2 k (by have := (own_blk7 hOw k hk).1; omega))
          rw [List.take_length] at hRC
          have hR2 := RC.mono (Z' := Zb w.heap.size (((((((wr.setCell ⟨w.heap.size + 1, 0, none⟩ (.int .i64 tk)).setCell ⟨w.heap.size + 1, 1, none⟩ (.bool tneg)).setCell ⟨w.heap.size + 1, 2, none⟩ (.slice oD td.length cD)).setCell ⟨w.heap.size + 1, 3, none⟩ (.string tnm)).setCell ⟨w.heap.size + 1, 4, none⟩ (.int .i64 tn)).setCell ⟨w.heap.size + 1, 5, none⟩ (.slice oL tl.length cL)).setCell ⟨w.heap.size + 1, 6, none⟩ (.slice oB tb.length cB))) (fun k hk hz => ⟨by have := hz.1; omega, hk⟩) (hRC.zs (w' := (((((((wr.setCell ⟨w.heap.size + 1, 0, none⟩ (.int .i64 tk)).setCell ⟨w.heap.size + 1, 1, none⟩ (.bool tneg)).setCell ⟨w.heap.size + 1, 2, none⟩ (.slice oD td.length cD)).setCell ⟨w.heap.size + 1, 3, none⟩ (.string tnm)).setCell ⟨w.heap.size + 1, 4, none⟩ (.int .i64 tn)).setCell ⟨w.heap.size + 1, 5, none⟩ (.slice oL tl.length cL)).setCell ⟨w.heap.size + 1, 6, none⟩ (.slice oB tb.length cB))) (fun k hk => onR.2.2 k (by have := hk.1; omega)))
          unfold TV
          refine ⟨oD, cD, oL, cL, oB, cB, rfl, qd.mono (toZ _), hcD, HM.out.1, ⟨qb.mono (toZ _), HM.out.2⟩, hcB, hcL, own_trz hO2 hR2 (fun q _ hq hq2 => ⟨by omega, hq2⟩)⟩
        have hBF : Below w.heap.size w (((((((wr.setCell ⟨w.heap.size + 1, 0, none⟩ (.int .i64 tk)).setCell ⟨w.heap.size + 1, 1, none⟩ (.bool tneg)).setCell ⟨w.heap.size + 1, 2, none⟩ (.slice oD td.length cD)).setCell ⟨w.heap.size + 1, 3, none⟩ (.string tnm)).setCell ⟨w.heap.size + 1, 4, none⟩ (.int .i64 tn)).setCell ⟨w.heap.size + 1, 5, none⟩ (.slice oL tl.length cL)).setCell ⟨w.heap.size + 1, 6, none⟩ (.slice oB tb.length cB)) := (below_and' hB1 (by omega) (below_le hbV (Nat.le_refl _)) |> fun h => h).trans (onR.below (B := w.heap.size) (by omega))
        have HF := hid hfin
        have HBF := hid hBF
        clear hfin hBF onR hRC hOw hnt
        go_wp2
        exact bodyPost_ret (v := tmV tk tneg (.slice oD td.length cD) tnm tn (.slice oL tl.length cL) (.slice oB tb.length cB)) (by simp [results, Tryz.results32, go_sem, r0, r1, r2, r3, r4, r5, r6]) rfl ⟨_, rfl, HF.out, HBF.out⟩
  · subst ha0; rfl
  · exact ⟨Below.refl _ _, rfl, fun h => by simp at h, fun h => by simp at h, fun h => by simp at h, fun h => by simp at h⟩
end Go.Proofs.YtjacoodfhkaioaaGreatDoor
namespace Go.Proofs.YtjacoodfhkaioaaGreatDoor
open Go.ChangeShapes Go.WideShapes Go.ChangeAt Go.RowKit Go.Shelf
set_option linter.unusedSimpArgs false
set_option linter.unusedVariables false
set_option maxRecDepth 2000

/-- a row that is open: the sign that ends it, what was read of it, whether a list's end follows -/
structure Op where
  c : UInt8
  its : List Tm
  bar : Bool
inductive Hd where
  | no
  | tm (T : Tm)
  | rw (o : Op)
def consL : List Tm → Tm → Tm
  | [], t => t
  | x :: l, t => consT x (consL l t)
def wholeL (o : Op) : Option Tm :=
  if o.c = 125 then some (tupT o.its)
  else if o.bar then
    match o.its.getLast? with
    | none => none
    | some t => if t.kind = 5 ∨ t.kind = 6 then none else some (consL o.its.dropLast t)
  else some (consL o.its nilT)
def hdO : Option Tm → Hd
  | none => .no
  | some T => .tm T
def Op.add (o : Op) (T : Tm) : Op := ⟨o.c, o.its ++ [T], o.bar⟩
def putL (o : Op) (T : Tm) (r : List UInt8) : Hd × List UInt8 :=
  if skB o.c r then (hdO (wholeL (o.add T)), skR o.c r)
  else if o.bar then (.no, r)
  else if skB 44 r then (.rw (o.add T), skR 44 r)
  else if o.c = 93 ∧ skB 124 r = true then (.rw ⟨o.c, o.its ++ [T], true⟩, skR 124 r)
  else (.no, r)
def bgH : Bg → Hd
  | .lf o => hdO o
  | .rw c => .rw ⟨c, [], false⟩
def runL : Nat → List UInt8 → List Op → Hd → Option Tm × List UInt8
  | 0, r, _, _ => (none, r)
  | _ + 1, r, _, .no => (none, r)
  | n + 1, r, st, .rw o => runL n (beginL r).2 (o :: st) (bgH (beginL r).1)
  | _ + 1, r, [], .tm T => (some T, r)
  | n + 1, r, o :: st, .tm T => runL n (putL o T r).2 st (putL o T r).1
def readL (r : List UInt8) : Option Tm × List UInt8 := runL (r.length + 2) (beginL r).2 [] (bgH (beginL r).1)
/-- how much is held -/
def wtO (o : Op) : Nat := 1 + o.its.length
def wtS : List Op → Nat
  | [] => 0
  | o :: st => wtO o + wtS st
def wtH : Hd → Nat
  | .no => 0
  | .tm _ => 1
  | .rw o => wtO o
def okOp (o : Op) : Prop := (o.c = 93 ∨ o.c = 125) ∧ (o.bar = true → o.its ≠ [] ∧ o.c = 93)
def okH : Hd → Prop
  | .no => True
  | .tm _ => True
  | .rw o => okOp o
theorem skB_len {c : UInt8} {r : List UInt8} (h : skB c r = true) : (skR c r).length + 1 = r.length := by
  unfold skB at h
  unfold skR
  cases r with
  | nil => simp at h
  | cons b t => simp at h; simp [h]
theorem drop_le (r : List UInt8) : (r.dropWhile digB).length ≤ r.length := (List.dropWhile_suffix digB).length_le
theorem pidL_le (r : List UInt8) : (pidL r).2.length ≤ r.length := by
  unfold pidL
  split
  · exact Nat.le_trans (skR_le _ _) (drop_le r)
  · exact drop_le r
theorem refL_le (r : List UInt8) : (refL r).2.length ≤ r.length := drop_le r
theorem intL_le (m r : List UInt8) : (intL m r).2.length ≤ r.length := drop_le r
theorem intL_shr (r : List UInt8) (h : digH r = true) : (intL [] r).2.length + 1 ≤ r.length := by
  cases r with
  | nil => simp [digH] at h
  | cons b t =>
    unfold digH at h
    have h2 : digB b = true := h
    show ((b :: t).dropWhile digB).length + 1 ≤ _
    rw [List.dropWhile_cons_of_pos h2, List.length_cons]
    have := drop_le t
    omega
/-- what is valid stays so -/
theorem vd_app {a b : List UInt8} (h : Lib.validD a = true) : Lib.validD (a ++ b) = Lib.validD b := by
  obtain ⟨rs, h1, rfl⟩ := (valid_iff a).1 h
  exact valid_en rs h1 b
theorem vd_asc (c : UInt8) (hc : c.toNat < 128) (t : List UInt8) : Lib.validD (c :: t) = Lib.validD t := by
  have h := valid_e1 c.toNat (okR_ascii hc) t
  rw [e1_ascii _ hc] at h
  simpa using h
theorem vd_skR {c : UInt8} {r : List UInt8} (hc : c.toNat < 128) (h : Lib.validD r = true) : Lib.validD (skR c r) = true := by
  unfold skR
  split
  · rename_i hh
    cases r with
    | nil => simp at hh
    | cons b t =>
      simp only [List.head?_cons, Option.some.injEq] at hh
      subst hh
      rw [vd_asc _ hc] at h
      exact h
  · exact h
theorem vd_drop {r : List UInt8} (h : Lib.validD r = true) : Lib.validD (r.dropWhile digB) = true := by
  induction r with
  | nil => exact h
  | cons b t ih =>
    by_cases hb : digB b = true
    · rw [List.dropWhile_cons_of_pos hb]
      have hb2 : b.toNat < 128 := by simp [digB] at hb; omega
      rw [vd_asc _ hb2] at h
      exact ih h
    · rw [List.dropWhile_cons_of_neg hb]; exact h
theorem vd_quote (x : List UInt8) : Lib.validD (quoteL x) = true := by
  unfold quoteL
  split
  · split
    · assumption
    · exact valid_en0 _ (okRs_quoteR _ (okRs_sg _))
  · rfl
theorem vd_name {r : List UInt8} (h : Lib.validD r = true) : Lib.validD (nameL r).2 = true := by
  unfold nameL
  split
  · split
    · rename_i h2
      have h3 := List.take_append_drop (unqQ (r.take (nearN r))).2.2 r
      rw [← h3, vd_app (by rw [h2]; exact vd_quote _)] at h
      exact h
    · exact h
  · exact h
theorem vd_bin : ∀ (k : Nat) (r : List UInt8) (acc : List Nat), Lib.validD r = true → Lib.validD (binGo k r acc).2 = true
  | 0, r, _, h => h
  | k + 1, r, acc, h => by
    have h2 : Lib.validD (if acc = [] then r else skR 44 r) = true := by
      split
      · exact h
      · exact vd_skR (by decide) h
    obtain ⟨q, hq⟩ : ∃ q, (if acc = [] then r else skR 44 r) = q := ⟨_, rfl⟩
    rw [hq] at h2
    rw [bin_one, hq]
    split
    · split
      · exact vd_skR (by decide) (vd_skR (by decide) h)
      · exact vd_skR (by decide) (vd_skR (by decide) h)
    · split
      · exact h
      · split
        · exact vd_bin k _ _ (vd_drop h2)
        · exact vd_drop h2
theorem vd_head {b : UInt8} {t : List UInt8} (h : Lib.validD (b :: t) = true) : stB b.toNat = true := by
  rw [Lib.validD_step _ (by simp), Lib.decodeL_N] at h
  simp only [List.getD_cons_zero] at h
  have hb := b.toNat_lt
  rcases Lib.decodeN_shape (b :: t).length b.toNat ((b :: t).getD 1 0).toNat ((b :: t).getD 2 0).toNat ((b :: t).getD 3 0).toNat with ⟨c, e⟩ | ⟨c1, _⟩ | ⟨c1, _⟩ | ⟨c1, _⟩ | e
  · simp [stB]; omega
  · simp [stB]; omega
  · simp [stB]; omega
  · simp [stB]; omega
  · rw [e] at h
    simp at h
theorem opL_vd {c : UInt8} {T : Tm} {r : List UInt8} (hc : c.toNat < 128) (h : Lib.validD r = true) : Lib.validD (opL c T r).2 = true := by
  unfold opL
  split
  · exact vd_skR hc h
  · exact h
theorem pidL_vd {r : List UInt8} (h : Lib.validD r = true) : Lib.validD (pidL r).2 = true := by
  unfold pidL
  split
  · exact vd_skR (by decide) (vd_drop h)
  · exact vd_drop h
theorem beginL_vd {r : List UInt8} (h : Lib.validD r = true) : Lib.validD (beginL r).2 = true := by
  unfold beginL
  have q := fun (c : UInt8) (hc : c.toNat < 128) => vd_skR hc h
  split
  · exact opL_vd (by decide) (q 91 (by decide))
  · split
    · exact opL_vd (by decide) (q 123 (by decide))
    · split
      · split
        · exact vd_bin _ _ _ (vd_skR (by decide) (q 60 (by decide)))
        · exact pidL_vd (q 60 (by decide))
      · split
        · exact vd_drop (q 35 (by decide))
        · split
          · exact vd_drop (q 45 (by decide))
          · split
            · exact vd_drop h
            · exact vd_name h
/-- a name takes a byte at least -/
theorem runQ_rest (L : Nat) : ∀ (t : List Nat) (part : Nat) (out : List Nat) (num dig : Nat), (runQ L part out num dig t).1 = 0 → ∃ p, t = p ++ (runQ L part out num dig t).2.2
  | [], _, _, _, _, h => by simp [runQ] at h
  | r :: t, part, out, num, dig, h => by
    unfold runQ at h ⊢
    split at h
    · rename_i hc
      rw [if_pos hc]
      exact ⟨[r], rfl⟩
    · rename_i hc
      rw [if_neg hc]
      split at h
      · rename_i hc2
        rw [if_pos hc2]
        obtain ⟨p, hp⟩ := runQ_rest L t _ _ _ _ h
        exact ⟨r :: p, by rw [List.cons_append, ← hp]⟩
      · rename_i hc2
        exact absurd h hc2
theorem hasP_39 {l : List UInt8} (h : Lib.hasPrefix l [39] = true) : ∃ t, l = 39 :: t := by
  cases l with
  | nil => simp [Lib.hasPrefix] at h
  | cons b t =>
    simp [Lib.hasPrefix] at h
    exact ⟨t, by rw [h]⟩
theorem unq_pos (l : List UInt8) (h : (unqQ l).1 = 0) : 1 ≤ (unqQ l).2.2 := by
  unfold unqQ at h ⊢
  by_cases hv : Lib.validD l = true
  · rw [if_pos hv] at h ⊢
    by_cases hp : Lib.hasPrefix l [39] = true
    · rw [if_pos hp] at h ⊢
      obtain ⟨t, rfl⟩ := hasP_39 hp
      rw [vd_asc _ (by decide)] at hv
      unfold quotQ at h ⊢
      by_cases hq : (runQ 255 0 [] 0 0 (sg ((39 :: t).drop 1))).1 = 0
      · rw [if_pos hq] at h ⊢
        obtain ⟨p, hp⟩ := runQ_rest 255 _ _ _ _ _ hq
        have h2 := congrArg (fun x => (en x).length) hp
        simp only [List.drop_succ_cons, List.drop_zero] at h2 ⊢
        rw [en_of_valid hv, en_append, List.length_append] at h2
        simp only [List.length_cons]
        omega
      · rw [if_neg hq] at h
        exact absurd h hq
    · rw [if_neg hp] at h ⊢
      unfold bareQ at h ⊢
      split at h
      · simp at h
      · split at h
        · simp at h
        · rename_i h1 h2
          rw [if_neg h1, if_neg h2]
          show 1 ≤ bareLen true (sg l)
          omega
  · rw [if_neg hv] at h
    simp at h
theorem nameL_le (r : List UInt8) : (nameL r).2.length ≤ r.length := by
  unfold nameL
  split
  · split
    · rw [List.length_drop]; omega
    · exact Nat.le_refl _
  · exact Nat.le_refl _
theorem nameL_shr (r : List UInt8) (h : (nameL r).1.isSome = true) : (nameL r).2.length + 1 ≤ r.length := by
  unfold nameL at h ⊢
  split at h
  · rename_i h0
    split at h
    · rename_i h1
      rw [if_pos h0, if_pos h1]
      have h2 := unq_pos _ h0
      have h3 := (unq_sizes (r.take (nearN r)) (by have := nearN_le r; omega)).2
      have h4 : (r.take (nearN r)).length ≤ r.length := by rw [List.length_take]; omega
      rw [List.length_drop]
      omega
    · simp at h
  · simp at h
theorem binGo_le : ∀ (k : Nat) (r : List UInt8) (acc : List Nat), (binGo k r acc).2.length ≤ r.length
  | 0, r, _ => Nat.le_refl _
  | k + 1, r, acc => by
    have h2 : (if acc = [] then r else skR 44 r).length ≤ r.length := by
      split
      · exact Nat.le_refl _
      · exact skR_le _ _
    obtain ⟨q, hq⟩ : ∃ q, (if acc = [] then r else skR 44 r) = q := ⟨_, rfl⟩
    rw [hq] at h2
    rw [bin_one, hq]
    split
    · split
      · exact Nat.le_trans (skR_le _ _) (skR_le _ _)
      · exact Nat.le_trans (skR_le _ _) (skR_le _ _)
    · split
      · exact Nat.le_refl _
      · split
        · exact Nat.le_trans (binGo_le k _ _) (Nat.le_trans (drop_le _) h2)
        · exact Nat.le_trans (drop_le _) h2
theorem opL_le (c : UInt8) (T : Tm) (r : List UInt8) : (opL c T r).2.length ≤ r.length := by
  unfold opL
  split
  · exact skR_le _ _
  · exact Nat.le_refl _
theorem beginL_le (r : List UInt8) : (beginL r).2.length ≤ r.length := by
  unfold beginL
  split
  · exact Nat.le_trans (opL_le _ _ _) (skR_le _ _)
  · split
    · exact Nat.le_trans (opL_le _ _ _) (skR_le _ _)
    · split
      · split
        · exact Nat.le_trans (binGo_le ((skR 60 (skR 60 r)).length + 1) (skR 60 (skR 60 r)) []) (Nat.le_trans (skR_le _ _) (skR_le _ _))
        · exact Nat.le_trans (pidL_le _) (skR_le _ _)
      · split
        · exact Nat.le_trans (refL_le _) (skR_le _ _)
        · split
          · exact Nat.le_trans (intL_le [45] (skR 45 r)) (skR_le _ _)
          · split
            · exact intL_le [] r
            · exact nameL_le r
theorem beginL_shr (r : List UInt8) (h : bgH (beginL r).1 ≠ .no) : (beginL r).2.length + 1 ≤ r.length := by
  unfold beginL at h ⊢
  split
  · rename_i h1
    have := skB_len h1
    have := opL_le 93 nilT (skR 91 r)
    omega
  · split
    · rename_i h1
      have := skB_len h1
      have := opL_le 125 (tupT []) (skR 123 r)
      omega
    · split
      · rename_i h1
        have h2 := skB_len h1
        split
        · have := binGo_le ((skR 60 (skR 60 r)).length + 1) (skR 60 (skR 60 r)) []
          have := skR_le 60 (skR 60 r)
          show (binGo _ _ _).2.length + 1 ≤ _
          omega
        · have := pidL_le (skR 60 r)
          show (pidL _).2.length + 1 ≤ _
          omega
      · split
        · rename_i h1
          have h2 := skB_len h1
          have := refL_le (skR 35 r)
          show (refL (skR 35 r)).2.length + 1 ≤ r.length
          omega
        · split
          · rename_i h1
            have h2 := skB_len h1
            have := intL_le [45] (skR 45 r)
            show (intL [45] (skR 45 r)).2.length + 1 ≤ r.length
            omega
          · split
            · rename_i h1
              show (intL [] r).2.length + 1 ≤ r.length
              exact intL_shr r h1
            · rename_i h1 h2 h3 h4 h5 h6
              rw [if_neg h1, if_neg h2, if_neg h3, if_neg h4, if_neg h5, if_neg h6] at h
              refine nameL_shr r ?_
              simp only [lfL, bgH] at h
              cases hn : (nameL r).1 with
              | none => rw [hn] at h; exact absurd rfl h
              | some x => rfl
theorem opL_ok (c : UInt8) (T : Tm) (r : List UInt8) (hc : c = 93 ∨ c = 125) : okH (bgH (opL c T r).1) ∧ wtH (bgH (opL c T r).1) = 1 := by
  unfold opL
  split
  · exact ⟨trivial, rfl⟩
  · exact ⟨⟨hc, fun e => by simp at e⟩, rfl⟩
theorem lfL_ok (p : Option Tm × List UInt8) : okH (bgH (lfL p).1) ∧ wtH (bgH (lfL p).1) ≤ 1 := by
  obtain ⟨o, r⟩ := p
  cases o with
  | none => exact ⟨trivial, by simp [lfL, bgH, hdO, wtH]⟩
  | some T => exact ⟨trivial, Nat.le_refl _⟩
theorem beginL_ok (r : List UInt8) : okH (bgH (beginL r).1) ∧ wtH (bgH (beginL r).1) ≤ 1 := by
  unfold beginL
  split
  · exact ⟨(opL_ok _ _ _ (.inl rfl)).1, Nat.le_of_eq (opL_ok _ _ _ (.inl rfl)).2⟩
  · split
    · exact ⟨(opL_ok _ _ _ (.inr rfl)).1, Nat.le_of_eq (opL_ok _ _ _ (.inr rfl)).2⟩
    · split
      · split
        · exact lfL_ok _
        · exact lfL_ok _
      · split
        · exact lfL_ok _
        · split
          · exact lfL_ok _
          · split
            · exact lfL_ok _
            · exact lfL_ok _
theorem okO_lt {o : Op} (h : okOp o) : o.c.toNat < 128 := by
  rcases h.1 with e | e <;> rw [e] <;> decide
theorem putL_vd {o : Op} {T : Tm} {r : List UInt8} (ho : okOp o) (h : Lib.validD r = true) : Lib.validD (putL o T r).2 = true := by
  unfold putL
  split
  · exact vd_skR (okO_lt ho) h
  · split
    · exact h
    · split
      · exact vd_skR (by decide) h
      · split
        · exact vd_skR (by decide) h
        · exact h
theorem putL_shr (o : Op) (T : Tm) (r : List UInt8) : (putL o T r).2.length ≤ r.length ∧ ((putL o T r).1 ≠ .no → (putL o T r).2.length + 1 ≤ r.length) := by
  unfold putL
  split
  · rename_i h
    have := skB_len h
    exact ⟨by simp only []; omega, fun _ => by simp only []; omega⟩
  · split
    · exact ⟨Nat.le_refl _, fun e => absurd rfl e⟩
    · split
      · rename_i h
        have := skB_len h
        exact ⟨by simp only []; omega, fun _ => by simp only []; omega⟩
      · split
        · rename_i h
          have := skB_len h.2
          exact ⟨by simp only []; omega, fun _ => by simp only []; omega⟩
        · exact ⟨Nat.le_refl _, fun e => absurd rfl e⟩
theorem putL_ok {o : Op} {T : Tm} {r : List UInt8} (ho : okOp o) : okH (putL o T r).1 ∧ wtH (putL o T r).1 ≤ wtO o + 1 := by
  unfold putL
  split
  · cases wholeL (o.add T) with
    | none => exact ⟨trivial, by simp [hdO, wtH]⟩
    | some x => exact ⟨trivial, by simp [hdO, wtH, wtO]⟩
  · split
    · exact ⟨trivial, by simp [wtH]⟩
    · rename_i hb
      split
      · refine ⟨⟨ho.1, fun e => absurd e hb⟩, ?_⟩
        simp [wtH, wtO, Op.add]; omega
      · split
        · rename_i h
          exact ⟨⟨ho.1, fun _ => ⟨by simp, h.1⟩⟩, by simp [wtH, wtO]; omega⟩
        · exact ⟨trivial, by simp [wtH]⟩
/-- fuel beyond what is wanted changes nothing -/
def hdF : Hd → List UInt8 → Nat
  | .no, _ => 1
  | _, r => r.length + 2
theorem hdF_begin {r : List UInt8} {n : Nat} (h : r.length + 1 ≤ n) : hdF (bgH (beginL r).1) (beginL r).2 ≤ n := by
  cases hb : bgH (beginL r).1 with
  | no => simp [hdF]; omega
  | tm T =>
    have := beginL_shr r (by rw [hb]; simp)
    simp [hdF]; omega
  | rw o =>
    have := beginL_shr r (by rw [hb]; simp)
    simp [hdF]; omega
theorem hdF_put {o : Op} {T : Tm} {r : List UInt8} {n : Nat} (h : r.length + 1 ≤ n) : hdF (putL o T r).1 (putL o T r).2 ≤ n := by
  cases hb : (putL o T r).1 with
  | no => simp [hdF]; omega
  | tm T' =>
    have := (putL_shr o T r).2 (by rw [hb]; simp)
    simp [hdF]; omega
  | rw o' =>
    have := (putL_shr o T r).2 (by rw [hb]; simp)
    simp [hdF]; omega
theorem runL_fuel : ∀ (n m : Nat) (r : List UInt8) (st : List Op) (hd : Hd), hdF hd r ≤ n → hdF hd r ≤ m → runL n r st hd = runL m r st hd
  | 0, _, r, _, hd, h, _ => by cases hd <;> simp [hdF] at h
  | _ + 1, 0, r, _, hd, _, h => by cases hd <;> simp [hdF] at h
  | n + 1, m + 1, r, st, .no, _, _ => rfl
  | n + 1, m + 1, r, st, .rw o, h, h' => by
    simp only [hdF] at h h'
    show runL n _ _ _ = runL m _ _ _
    exact runL_fuel n m _ _ _ (hdF_begin (by omega)) (hdF_begin (by omega))
  | n + 1, m + 1, r, [], .tm T, _, _ => rfl
  | n + 1, m + 1, r, o :: st, .tm T, h, h' => by
    simp only [hdF] at h h'
    show runL n _ _ _ = runL m _ _ _
    exact runL_fuel n m _ _ _ (hdF_put (by omega)) (hdF_put (by omega))
/-- the machine, whatever the fuel -/
def goL (r : List UInt8) (st : List Op) (hd : Hd) : Option Tm × List UInt8 := runL (r.length + 2) r st hd
theorem hdF_le (hd : Hd) (r : List UInt8) : hdF hd r ≤ r.length + 2 := by cases hd <;> simp [hdF]
theorem goL_rw (r : List UInt8) (st : List Op) (o : Op) : goL r st (.rw o) = goL (beginL r).2 (o :: st) (bgH (beginL r).1) := by
  show runL (r.length + 1) _ _ _ = runL _ _ _ _
  exact runL_fuel _ _ _ _ _ (hdF_begin (Nat.le_refl _)) (hdF_le _ _)
theorem goL_tm (r : List UInt8) (o : Op) (st : List Op) (T : Tm) : goL r (o :: st) (.tm T) = goL (putL o T r).2 st (putL o T r).1 := by
  show runL (r.length + 1) _ _ _ = runL _ _ _ _
  exact runL_fuel _ _ _ _ _ (hdF_put (Nat.le_refl _)) (hdF_le _ _)
theorem readL_go (r : List UInt8) : readL r = goL (beginL r).2 [] (bgH (beginL r).1) := runL_fuel _ _ _ _ _ (Nat.le_trans (hdF_begin (n := r.length + 1) (Nat.le_refl _)) (by omega)) (hdF_le _ _)
end Go.Proofs.YtjacoodfhkaioaaGreatDoor
