/- Copy of the reference. -/
import Derived.Test.YtpdoepjnkgffpaaDoorCpyOrd
namespace Go.Proofs.YtpdoepjnkgffpaaDoor
open Go.ChangeShapes Go.WideShapes Go.ChangeAt Go.ChangeMaps Go.RowKit Go.Shelf
set_option linter.unusedSimpArgs false
set_option linter.unusedVariables false
set_option maxRecDepth 2000
abbrev Zb (S : Nat) (w : World) : Nat → Prop := fun k => S ≤ k ∧ k < w.heap.size
theorem zb_tv {S S' : Nat} {w w' : World} {t : Tm} {v : Value} (h : TV (Zb S w) w t v) (hb : ∀ k, S ≤ k → k < w.heap.size → w'.heap[k]? = w.heap[k]?) (hs : w.heap.size ≤ w'.heap.size) (hS : S' ≤ S) : TV (Zb S' w') w' t v :=
  TV.mono (fun k _ h => ⟨Nat.le_trans hS h.1, Nat.lt_of_lt_of_le h.2 hs⟩) _ _ (TV.zs (fun k hk => hb k hk.1 hk.2) _ _ h)
/-- new blocks that hold no terms -/
def Zt (S : Nat) (w : World) : Nat → Prop := fun k => S ≤ k ∧ ∃ (cur : Array Value) (e : TypeId) (f : Nat × Nat), w.heap[k]? = some (Obj.cells cur e f) ∧ e ≠ 31
def NT (w w' : World) : Prop := ∀ (k : Nat) (cur : Array Value) (e : TypeId) (f : Nat × Nat), w.heap[k]? = some (Obj.cells cur e f) → e ≠ 31 → w'.heap[k]? = w.heap[k]?
theorem NT.of_below {w w' : World} (h : Below w.heap.size w w') : NT w w' := fun k cur e f hk _ => h.block k (Array.getElem?_eq_some_iff.1 hk).1
theorem NT.refl (w : World) : NT w w := fun _ _ _ _ _ _ => rfl
theorem NT.trans {a b c : World} (h : NT a b) (k : NT b c) : NT a c := fun i cur e f hi he => by
  have h1 := h i cur e f hi he
  exact (k i cur e f (h1.trans hi) he).trans h1
theorem NT.of_only {g : Nat} {cur : Array Value} {w w' : World} (h : Only g w w') (hg : w.heap[g]? = some (.cells cur 31 (0, 0))) : NT w w' := fun k c e f hk he => h.2.2 k (fun eq => by
  subst eq
  rw [hg] at hk
  simp only [Option.some.injEq, Obj.cells.injEq] at hk
  exact he hk.2.1.symm)
theorem NT.of_grown {w w' : World} {v : Value} {B m : Nat} {xs : List Value} (h : w.grownBy w' v.ownBlock) (hO : w.ownsRow B 31 7 v m xs) : NT w w' := fun k c e f hk he => h.block k (Array.getElem?_eq_some_iff.1 hk).1 (fun eq => by
  obtain ⟨_, ⟨h2, _⟩ | ⟨g', cap', cur, h2, _, hg, _⟩⟩ := hO
  · rw [h2] at eq; simp [Value.ownBlock] at eq
  · rw [h2] at eq
    simp only [Value.ownBlock, Option.some.injEq] at eq
    subst eq
    rw [hg] at hk
    simp only [Option.some.injEq, Obj.cells.injEq] at hk
    exact he hk.2.1.symm)
theorem zt_on {S : Nat} {o : Option Addr} {xs : List Value} {w w' : World} (h : Ls (Zt S w) o xs w) (hn : NT w w') : Ls (Zt S w') o xs w' :=
  Ls.mono (h.zs (fun k hk => by
    obtain ⟨_, cur, e, f, h1, h2⟩ := hk
    exact hn k cur e f h1 h2)) (fun k _ hk => by
    obtain ⟨h0, cur, e, f, h1, h2⟩ := hk
    exact ⟨h0, cur, e, f, (hn k cur e f h1 h2).trans h1, h2⟩)
theorem own_zt {S B : Nat} {w : World} {e : TypeId} {v : Value} {n : Nat} {xs : List Value} (h : w.ownsRow B e 1 v n xs) (hS : S ≤ B) (he : e ≠ 31) : ∃ o c, v = .slice o n c ∧ n ≤ c ∧ Ls (Zt S w) o xs w := by
  obtain ⟨h1, ⟨h2, rfl⟩ | ⟨g, cap, cur, h2, hB, hg, hn, _, _, ht⟩⟩ := h
  · refine ⟨none, 0, h2, Nat.le_refl _, ?_⟩
    have : xs = [] := List.eq_nil_of_length_eq_zero (by simpa using h1)
    subst this
    exact Ls.nil _ _ _
  · refine ⟨_, cap, h2, hn, fun j u hj => ⟨_, rfl, ⟨by show S ≤ g; omega, cur, e, _, hg, he⟩, ?_⟩⟩
    rw [addr_add, Nat.zero_add]
    have hj2 : j < n * 1 := by rw [← h1]; exact (List.getElem?_eq_some_iff.1 hj).1
    rw [← ht, List.getElem?_take, if_pos hj2, Array.getElem?_toList] at hj
    simp [World.cell?, hg, hj]
theorem step_append_run {P : Program} {w : World} {ops : Array Oper} {o : Oper} {a : Act} {K : Act → World → Prop} {Q : Exit → Act → World → Prop} {E : Prop} (hgd : o.guard = none) (s x : Operand) (t : TypeId) (ho : o.op = .call { callee := .builtin .append, args := #[s, x], argTypes := #[t, t] })
    (vs vx v' : Value) (w' : World) (hs : a.eval s = vs) (hx : a.eval x = vx) (hr : (Builtin.append_ #[t, t] o.type #[vs, vx]).run P w = .ok v' w') (h : K (a.put o.dst v') w') : if Region.wanted o (yielded ops a.tmps) = true then Oper.wp P o a w K Q else E := by
  have hw : Region.wanted o (yielded ops a.tmps) = true := by simp [Region.wanted, hgd]
  rw [if_pos hw]
  exact wp_append_run s x t ho vs vx v' w' hs hx hr h
abbrev zC : Array Value := #[.int .i64 0, .bool false, nilS, .string noS, .int .i64 0, nilS, nilS]
structure Rcp (V : World) (S : Nat) (k : Int) (neg : Bool) (d : List Nat) (nm : ByteArray) (n : Int) (b : List Nat) (s : St_cp) (w : World) : Prop where
  bel : Below V.heap.size V w
  ok : s.ok = true
  h10 : s.l10 = true → ∃ o c, s.x10 = .slice o d.length c ∧ d.length ≤ c ∧ Ls (Zt S w) o (lim d) w
  h13 : s.l13 = true → ∃ o c, s.x13 = .slice o b.length c ∧ b.length ≤ c ∧ Ls (Zt S w) o (bts b) w
  h14 : s.l14 = true → s.x14 = .agg #[.int .i64 k, .bool neg, s.x10, .string nm, .int .i64 n, nilS, s.x13]
  h15 : s.l15 = true → ∃ g, s.x15 = .pointer (some ⟨g, 0, none⟩) ∧ V.heap.size ≤ g ∧ w.heap[g]? = some (.cells zC 31 (0, 0))
section
variable {V : World} {S : Nat} {k : Int} {neg : Bool} {d : List Nat} {nm : ByteArray} {n : Int} {b : List Nat} {s : St_cp} {w w' : World}
theorem blk_on' {g : Nat} {o : Obj} {w w' : World} (h : w.heap[g]? = some o) (hb : Below w.heap.size w w') : w'.heap[g]? = some o := (hb.block g (Array.getElem?_eq_some_iff.1 h).1).trans h
theorem Rcp.on (h : Rcp V S k neg d nm n b s w) (hb : Below w.heap.size w w') : Rcp V S k neg d nm n b s w' :=
  ⟨below_and' h.bel h.bel.size hb, h.ok, fun e => by
    obtain ⟨o, c, h1, h2, h3⟩ := h.h10 e
    exact ⟨o, c, h1, h2, zt_on h3 (NT.of_below hb)⟩, fun e => by
    obtain ⟨o, c, h1, h2, h3⟩ := h.h13 e
    exact ⟨o, c, h1, h2, zt_on h3 (NT.of_below hb)⟩, h.h14, fun e => by
    obtain ⟨g, h1, h2, h3⟩ := h.h15 e
    exact ⟨g, h1, h2, blk_on' h3 hb⟩⟩
theorem Rcp.no14 (h : Rcp V S k neg d nm n b s w) (h0 : s.l10 = false ∨ s.l13 = false) : s.l14 = false := by
  have hk := h.ok
  rcases h0 with h0 | h0 <;> cases h14 : s.l14 <;> simp_all [St_cp.ok]
theorem Rcp.c10 (h : Rcp V S k neg d nm n b s w) (h0 : s.l10 = false) (hS : S ≤ V.heap.size) {v : Value} (hO : w'.ownsRow w.heap.size 42 1 v d.length (lim d)) (hb : Below w.heap.size w w') : Rcp V S k neg d nm n b { s with l10 := true, x10 := v } w' := by
  have k1 := h.on hb
  have q := h.no14 (.inl h0)
  obtain ⟨o, c, h1, h2, h3⟩ := own_zt hO (Nat.le_trans hS h.bel.size) (by decide)
  exact ⟨k1.bel, by simp [St_cp.ok, q], fun _ => ⟨o, c, h1, h2, h3⟩, k1.h13, fun e => by simp [q] at e, k1.h15⟩
theorem Rcp.c13 (h : Rcp V S k neg d nm n b s w) (h0 : s.l13 = false) (hS : S ≤ V.heap.size) {v : Value} (hO : w'.ownsRow w.heap.size 5 1 v b.length (bts b)) (hb : Below w.heap.size w w') : Rcp V S k neg d nm n b { s with l13 := true, x13 := v } w' := by
  have k1 := h.on hb
  have q := h.no14 (.inr h0)
  obtain ⟨o, c, h1, h2, h3⟩ := own_zt hO (Nat.le_trans hS h.bel.size) (by decide)
  exact ⟨k1.bel, by simp [St_cp.ok, q], k1.h10, fun _ => ⟨o, c, h1, h2, h3⟩, fun e => by simp [q] at e, k1.h15⟩
theorem Rcp.c14 (h : Rcp V S k neg d nm n b s w) (e10 : s.l10 = true) (e13 : s.l13 = true) : Rcp V S k neg d nm n b { s with l14 := true, x14 := .agg #[.int .i64 k, .bool neg, s.x10, .string nm, .int .i64 n, nilS, s.x13] } w :=
  ⟨h.bel, by simp [St_cp.ok, e10, e13], h.h10, h.h13, fun _ => rfl, h.h15⟩
theorem Rcp.c15 (h : Rcp V S k neg d nm n b s w) : Rcp V S k neg d nm n b { s with l15 := true, x15 := .pointer (some ⟨w.heap.size, 0, none⟩) } (w.alloc (.cells zC 31)) := by
  have k1 := h.on ((Below.refl w.heap.size w).alloc (Nat.le_refl _) (.cells zC 31))
  exact ⟨k1.bel, h.ok, k1.h10, k1.h13, k1.h14, fun _ => ⟨_, rfl, h.bel.size, heap_alloc_new w _⟩⟩
end
abbrev Zq (H : Nat) (v : Value) (w : World) : Nat → Prop := fun k => H ≤ k ∧ k < w.heap.size ∧ v.ownBlock ≠ some k
structure Rap (V : World) (vL : Value) (t : Tm) (l1 l7 l8 : Bool) (x1 x7 x8 : Value) (w : World) : Prop where
  bel : Below V.heap.size V w
  ok : (!l8 || l7) = true
  h1 : l1 = true → x1 = vL
  h7 : l7 = true → ∃ xk xneg xod xld xcd xnm xn xol xll xcl xob xlb xcb, x7 = tmV xk xneg (.slice xod xld xcd) xnm xn (.slice xol xll xcl) (.slice xob xlb xcb) ∧ TV (Zb V.heap.size w) w t (tmV xk xneg (.slice xod xld xcd) xnm xn (.slice xol xll xcl) (.slice xob xlb xcb))
  h8 : l8 = true → ∃ g xk xneg xod xld xcd xnm xn xol xll xcl xob xlb xcb, x7 = tmV xk xneg (.slice xod xld xcd) xnm xn (.slice xol xll xcl) (.slice xob xlb xcb) ∧ TV (Zb V.heap.size w) w t (tmV xk xneg (.slice xod xld xcd) xnm xn (.slice xol xll xcl) (.slice xob xlb xcb)) ∧ x8 = .slice (some ⟨g, 0, none⟩) 1 1 ∧ V.heap.size ≤ g ∧ w.heap[g]? = some (.cells #[.int .i64 xk, .bool xneg, .slice xod xld xcd, .string xnm, .int .i64 xn, .slice xol xll xcl, .slice xob xlb xcb] 31 (0, 0))
section
variable {V : World} {vL : Value} {t : Tm} {l1 l7 l8 : Bool} {x1 x7 x8 : Value} {w w' : World}
theorem Rap.on (h : Rap V vL t l1 l7 l8 x1 x7 x8 w) (hb : Below w.heap.size w w') : Rap V vL t l1 l7 l8 x1 x7 x8 w' :=
  ⟨below_and' h.bel h.bel.size hb, h.ok, h.h1, fun e => by
    obtain ⟨xk, xneg, xod, xld, xcd, xnm, xn, xol, xll, xcl, xob, xlb, xcb, h1, h2⟩ := h.h7 e
    exact ⟨xk, xneg, xod, xld, xcd, xnm, xn, xol, xll, xcl, xob, xlb, xcb, h1, zb_tv h2 (fun k _ hk => hb.block k hk) hb.size (Nat.le_refl _)⟩, fun e => by
    obtain ⟨g, xk, xneg, xod, xld, xcd, xnm, xn, xol, xll, xcl, xob, xlb, xcb, h1, h2, h3, h4, h5⟩ := h.h8 e
    exact ⟨g, xk, xneg, xod, xld, xcd, xnm, xn, xol, xll, xcl, xob, xlb, xcb, h1, zb_tv h2 (fun k _ hk => hb.block k hk) hb.size (Nat.le_refl _), h3, h4, blk_on' h5 hb⟩⟩
theorem Rap.c1 (h : Rap V vL t l1 l7 l8 x1 x7 x8 w) : Rap V vL t true l7 l8 vL x7 x8 w := ⟨h.bel, h.ok, fun _ => rfl, h.h7, h.h8⟩
theorem Rap.c7 (h : Rap V vL t l1 l7 l8 x1 x7 x8 w) (h0 : l7 = false) {v : Value} (hT : TV (Zb w.heap.size w') w' t v) (hb : Below w.heap.size w w') : Rap V vL t l1 true l8 x1 v x8 w' := by
  have k1 := h.on hb
  have q : l8 = false := by have := h.ok; subst h0; simpa using this
  subst q
  obtain ⟨xk, xneg, xod, xld, xcd, xnm, xn, xol, xll, xcl, xob, xlb, xcb, rfl⟩ := hT.form
  exact ⟨k1.bel, rfl, k1.h1, fun _ => ⟨xk, xneg, xod, xld, xcd, xnm, xn, xol, xll, xcl, xob, xlb, xcb, rfl, TV.mono (fun k _ hk => ⟨Nat.le_trans h.bel.size hk.1, hk.2⟩) _ _ hT⟩, fun e => by simp at e⟩
theorem Rap.c8 {xk : Int} {xneg : Bool} {xod : Option Addr} {xld xcd : Nat} {xnm : ByteArray} {xn : Int} {xol : Option Addr} {xll xcl : Nat} {xob : Option Addr} {xlb xcb : Nat} (h : Rap V vL t l1 l7 l8 x1 (tmV xk xneg (.slice xod xld xcd) xnm xn (.slice xol xll xcl) (.slice xob xlb xcb)) x8 w) (e7 : l7 = true) : Rap V vL t l1 l7 true x1 (tmV xk xneg (.slice xod xld xcd) xnm xn (.slice xol xll xcl) (.slice xob xlb xcb)) (.slice (some ⟨w.heap.size, 0, none⟩) 1 1) (w.alloc (.cells #[.int .i64 xk, .bool xneg, .slice xod xld xcd, .string xnm, .int .i64 xn, .slice xol xll xcl, .slice xob xlb xcb] 31)) := by
  have k1 := h.on ((Below.refl w.heap.size w).alloc (Nat.le_refl _) (.cells #[.int .i64 xk, .bool xneg, .slice xod xld xcd, .string xnm, .int .i64 xn, .slice xol xll xcl, .slice xob xlb xcb] 31))
  obtain ⟨yk, yneg, yod, yld, ycd, ynm, yn, yol, yll, ycl, yob, ylb, ycb, e, hT⟩ := k1.h7 e7
  simp only [tmV, Value.agg.injEq, Array.mk.injEq, List.cons.injEq, Value.int.injEq, Value.bool.injEq, Value.slice.injEq, Value.string.injEq, and_true, true_and] at e
  obtain ⟨rfl, rfl, ⟨rfl, rfl, rfl⟩, rfl, rfl, ⟨rfl, rfl, rfl⟩, rfl, rfl, rfl⟩ := e
  exact ⟨k1.bel, by simp [e7], k1.h1, k1.h7, fun _ => ⟨w.heap.size, _, _, _, _, _, _, _, _, _, _, _, _, _, rfl, hT, rfl, h.bel.size, heap_alloc_new w _⟩⟩
end
end Go.Proofs.YtpdoepjnkgffpaaDoor
