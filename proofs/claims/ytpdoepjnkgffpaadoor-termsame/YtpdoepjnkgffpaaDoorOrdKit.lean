/- The walk of package order: its object, its stack, and what a walk may write. -/
import Derived.Test.YtpdoepjnkgffpaaDoorOrdMath
import Derived.Test.YtpdoepjnkgffpaaDoorTermEv
import Derived.Deep.AppendLies
namespace Go.Proofs.YtpdoepjnkgffpaaDoor
open Go.ChangeShapes Go.WideShapes Go.ChangeAt Go.RowKit Go.Shelf
set_option linter.unusedSimpArgs false
set_option linter.unusedVariables false
set_option maxRecDepth 2000
abbrev kf (g n : Nat) : Value := .func (.func n) #[.pointer (some ⟨g, 0, none⟩)] #[]
theorem heap_setc {w : World} {b j : Nat} {cs : Array Value} {T : TypeId} (h : w.heap[b]? = some (.cells cs T (0, 0))) (q : Value) :
    (w.setCell ⟨b, j, none⟩ q).heap[b]? = some (.cells (cs.setIfInBounds j q) T (0, 0)) := by
  simp [World.setCell, Array.getElem?_modify, h]
abbrev wkC (g : Nat) (a0 a1 a2 a3 a4 a5 a6 b0 b1 b2 b3 b4 b5 b6 v : Value) : Array Value := #[a0, a1, a2, a3, a4, a5, a6, b0, b1, b2, b3, b4, b5, b6, v, kf g 43, kf g 44, kf g 45, kf g 45, kf g 46, kf g 47, kf g 48, kf g 49]
/-- the walk's object -/
def WkO (g : Nat) (a0 a1 a2 a3 a4 a5 a6 b0 b1 b2 b3 b4 b5 b6 v : Value) (w : World) : Prop := w.heap[g]? = some (.cells (wkC g a0 a1 a2 a3 a4 a5 a6 b0 b1 b2 b3 b4 b5 b6 v) 61 (0, 0))
section
variable {g : Nat} {a0 a1 a2 a3 a4 a5 a6 b0 b1 b2 b3 b4 b5 b6 v : Value} {w : World}
theorem WkO.lt (h : WkO g a0 a1 a2 a3 a4 a5 a6 b0 b1 b2 b3 b4 b5 b6 v w) : g < w.heap.size := (Array.getElem?_eq_some_iff.1 h).1
theorem WkO.cell (h : WkO g a0 a1 a2 a3 a4 a5 a6 b0 b1 b2 b3 b4 b5 b6 v w) (j : Nat) : w.cell? ⟨g, j, none⟩ = (wkC g a0 a1 a2 a3 a4 a5 a6 b0 b1 b2 b3 b4 b5 b6 v)[j]? := by
  unfold WkO at h
  simp [World.cell?, h]
theorem WkO.fr (h : WkO g a0 a1 a2 a3 a4 a5 a6 b0 b1 b2 b3 b4 b5 b6 v w) (j : Nat) : w.frozen? ⟨g, j, none⟩ = false := by
  unfold WkO at h
  simp [World.frozen?, h]
theorem WkO.ra (h : WkO g a0 a1 a2 a3 a4 a5 a6 b0 b1 b2 b3 b4 b5 b6 v w) : w.cell? ⟨g, 0, none⟩ = some a0 ∧ w.cell? ⟨g, 1, none⟩ = some a1 ∧ w.cell? ⟨g, 2, none⟩ = some a2 ∧ w.cell? ⟨g, 3, none⟩ = some a3 ∧ w.cell? ⟨g, 4, none⟩ = some a4 ∧ w.cell? ⟨g, 5, none⟩ = some a5 ∧ w.cell? ⟨g, 6, none⟩ = some a6 := ⟨h.cell 0, h.cell 1, h.cell 2, h.cell 3, h.cell 4, h.cell 5, h.cell 6⟩
theorem WkO.rb (h : WkO g a0 a1 a2 a3 a4 a5 a6 b0 b1 b2 b3 b4 b5 b6 v w) : w.cell? ⟨g, 7, none⟩ = some b0 ∧ w.cell? ⟨g, 8, none⟩ = some b1 ∧ w.cell? ⟨g, 9, none⟩ = some b2 ∧ w.cell? ⟨g, 10, none⟩ = some b3 ∧ w.cell? ⟨g, 11, none⟩ = some b4 ∧ w.cell? ⟨g, 12, none⟩ = some b5 ∧ w.cell? ⟨g, 13, none⟩ = some b6 := ⟨h.cell 7, h.cell 8, h.cell 9, h.cell 10, h.cell 11, h.cell 12, h.cell 13⟩
theorem WkO.rv (h : WkO g a0 a1 a2 a3 a4 a5 a6 b0 b1 b2 b3 b4 b5 b6 v w) : w.cell? ⟨g, 14, none⟩ = some v := h.cell 14
theorem WkO.rk (h : WkO g a0 a1 a2 a3 a4 a5 a6 b0 b1 b2 b3 b4 b5 b6 v w) : w.cell? ⟨g, 15, none⟩ = some (kf g 43) ∧ w.cell? ⟨g, 16, none⟩ = some (kf g 44) ∧ w.cell? ⟨g, 17, none⟩ = some (kf g 45) ∧ w.cell? ⟨g, 18, none⟩ = some (kf g 45) ∧ w.cell? ⟨g, 19, none⟩ = some (kf g 46) ∧ w.cell? ⟨g, 20, none⟩ = some (kf g 47) ∧ w.cell? ⟨g, 21, none⟩ = some (kf g 48) ∧ w.cell? ⟨g, 22, none⟩ = some (kf g 49) := ⟨h.cell 15, h.cell 16, h.cell 17, h.cell 18, h.cell 19, h.cell 20, h.cell 21, h.cell 22⟩
theorem WkO.of_block {w' : World} (h : WkO g a0 a1 a2 a3 a4 a5 a6 b0 b1 b2 b3 b4 b5 b6 v w) (hb : w'.heap[g]? = w.heap[g]?) : WkO g a0 a1 a2 a3 a4 a5 a6 b0 b1 b2 b3 b4 b5 b6 v w' := Eq.trans hb h
theorem WkO.below {w' : World} (h : WkO g a0 a1 a2 a3 a4 a5 a6 b0 b1 b2 b3 b4 b5 b6 v w) (hb : Below w.heap.size w w') : WkO g a0 a1 a2 a3 a4 a5 a6 b0 b1 b2 b3 b4 b5 b6 v w' := h.of_block (hb.block g h.lt)
theorem WkO.setv (h : WkO g a0 a1 a2 a3 a4 a5 a6 b0 b1 b2 b3 b4 b5 b6 v w) (x : Value) : WkO g a0 a1 a2 a3 a4 a5 a6 b0 b1 b2 b3 b4 b5 b6 x (w.setCell ⟨g, 14, none⟩ x) := heap_setc h x
theorem WkO.s0 (h : WkO g a0 a1 a2 a3 a4 a5 a6 b0 b1 b2 b3 b4 b5 b6 v w) (x : Value) : WkO g x a1 a2 a3 a4 a5 a6 b0 b1 b2 b3 b4 b5 b6 v (w.setCell ⟨g, 0, none⟩ x) := heap_setc h x
theorem WkO.s1 (h : WkO g a0 a1 a2 a3 a4 a5 a6 b0 b1 b2 b3 b4 b5 b6 v w) (x : Value) : WkO g a0 x a2 a3 a4 a5 a6 b0 b1 b2 b3 b4 b5 b6 v (w.setCell ⟨g, 1, none⟩ x) := heap_setc h x
theorem WkO.s2 (h : WkO g a0 a1 a2 a3 a4 a5 a6 b0 b1 b2 b3 b4 b5 b6 v w) (x : Value) : WkO g a0 a1 x a3 a4 a5 a6 b0 b1 b2 b3 b4 b5 b6 v (w.setCell ⟨g, 2, none⟩ x) := heap_setc h x
theorem WkO.s3 (h : WkO g a0 a1 a2 a3 a4 a5 a6 b0 b1 b2 b3 b4 b5 b6 v w) (x : Value) : WkO g a0 a1 a2 x a4 a5 a6 b0 b1 b2 b3 b4 b5 b6 v (w.setCell ⟨g, 3, none⟩ x) := heap_setc h x
theorem WkO.s4 (h : WkO g a0 a1 a2 a3 a4 a5 a6 b0 b1 b2 b3 b4 b5 b6 v w) (x : Value) : WkO g a0 a1 a2 a3 x a5 a6 b0 b1 b2 b3 b4 b5 b6 v (w.setCell ⟨g, 4, none⟩ x) := heap_setc h x
theorem WkO.s5 (h : WkO g a0 a1 a2 a3 a4 a5 a6 b0 b1 b2 b3 b4 b5 b6 v w) (x : Value) : WkO g a0 a1 a2 a3 a4 x a6 b0 b1 b2 b3 b4 b5 b6 v (w.setCell ⟨g, 5, none⟩ x) := heap_setc h x
theorem WkO.s6 (h : WkO g a0 a1 a2 a3 a4 a5 a6 b0 b1 b2 b3 b4 b5 b6 v w) (x : Value) : WkO g a0 a1 a2 a3 a4 a5 x b0 b1 b2 b3 b4 b5 b6 v (w.setCell ⟨g, 6, none⟩ x) := heap_setc h x
theorem WkO.s7 (h : WkO g a0 a1 a2 a3 a4 a5 a6 b0 b1 b2 b3 b4 b5 b6 v w) (x : Value) : WkO g a0 a1 a2 a3 a4 a5 a6 x b1 b2 b3 b4 b5 b6 v (w.setCell ⟨g, 7, none⟩ x) := heap_setc h x
theorem WkO.s8 (h : WkO g a0 a1 a2 a3 a4 a5 a6 b0 b1 b2 b3 b4 b5 b6 v w) (x : Value) : WkO g a0 a1 a2 a3 a4 a5 a6 b0 x b2 b3 b4 b5 b6 v (w.setCell ⟨g, 8, none⟩ x) := heap_setc h x
theorem WkO.s9 (h : WkO g a0 a1 a2 a3 a4 a5 a6 b0 b1 b2 b3 b4 b5 b6 v w) (x : Value) : WkO g a0 a1 a2 a3 a4 a5 a6 b0 b1 x b3 b4 b5 b6 v (w.setCell ⟨g, 9, none⟩ x) := heap_setc h x
theorem WkO.s10 (h : WkO g a0 a1 a2 a3 a4 a5 a6 b0 b1 b2 b3 b4 b5 b6 v w) (x : Value) : WkO g a0 a1 a2 a3 a4 a5 a6 b0 b1 b2 x b4 b5 b6 v (w.setCell ⟨g, 10, none⟩ x) := heap_setc h x
theorem WkO.s11 (h : WkO g a0 a1 a2 a3 a4 a5 a6 b0 b1 b2 b3 b4 b5 b6 v w) (x : Value) : WkO g a0 a1 a2 a3 a4 a5 a6 b0 b1 b2 b3 x b5 b6 v (w.setCell ⟨g, 11, none⟩ x) := heap_setc h x
theorem WkO.s12 (h : WkO g a0 a1 a2 a3 a4 a5 a6 b0 b1 b2 b3 b4 b5 b6 v w) (x : Value) : WkO g a0 a1 a2 a3 a4 a5 a6 b0 b1 b2 b3 b4 x b6 v (w.setCell ⟨g, 12, none⟩ x) := heap_setc h x
theorem WkO.s13 (h : WkO g a0 a1 a2 a3 a4 a5 a6 b0 b1 b2 b3 b4 b5 b6 v w) (x : Value) : WkO g a0 a1 a2 a3 a4 a5 a6 b0 b1 b2 b3 b4 b5 x v (w.setCell ⟨g, 13, none⟩ x) := heap_setc h x
theorem WkO.seta (h : WkO g a0 a1 a2 a3 a4 a5 a6 b0 b1 b2 b3 b4 b5 b6 v w) (x0 x1 x2 x3 x4 x5 x6 : Value) :
    WkO g x0 x1 x2 x3 x4 x5 x6 b0 b1 b2 b3 b4 b5 b6 v (((((((w.setCell ⟨g, 0, none⟩ x0).setCell ⟨g, 1, none⟩ x1).setCell ⟨g, 2, none⟩ x2).setCell ⟨g, 3, none⟩ x3).setCell ⟨g, 4, none⟩ x4).setCell ⟨g, 5, none⟩ x5).setCell ⟨g, 6, none⟩ x6) := (((((((h.s0 x0).s1 x1).s2 x2).s3 x3).s4 x4).s5 x5).s6 x6)
theorem WkO.setb (h : WkO g a0 a1 a2 a3 a4 a5 a6 b0 b1 b2 b3 b4 b5 b6 v w) (x0 x1 x2 x3 x4 x5 x6 : Value) :
    WkO g a0 a1 a2 a3 a4 a5 a6 x0 x1 x2 x3 x4 x5 x6 v (((((((w.setCell ⟨g, 7, none⟩ x0).setCell ⟨g, 8, none⟩ x1).setCell ⟨g, 9, none⟩ x2).setCell ⟨g, 10, none⟩ x3).setCell ⟨g, 11, none⟩ x4).setCell ⟨g, 12, none⟩ x5).setCell ⟨g, 13, none⟩ x6) := (((((((h.s7 x0).s8 x1).s9 x2).s10 x3).s11 x4).s12 x5).s13 x6)
theorem only_seta (w : World) (g : Nat) (x0 x1 x2 x3 x4 x5 x6 : Value) : Only g w (((((((w.setCell ⟨g, 0, none⟩ x0).setCell ⟨g, 1, none⟩ x1).setCell ⟨g, 2, none⟩ x2).setCell ⟨g, 3, none⟩ x3).setCell ⟨g, 4, none⟩ x4).setCell ⟨g, 5, none⟩ x5).setCell ⟨g, 6, none⟩ x6) :=
  ((((((only_set w g 0 x0).setCell 1 x1).setCell 2 x2).setCell 3 x3).setCell 4 x4).setCell 5 x5).setCell 6 x6
theorem only_setb (w : World) (g : Nat) (x0 x1 x2 x3 x4 x5 x6 : Value) : Only g w (((((((w.setCell ⟨g, 7, none⟩ x0).setCell ⟨g, 8, none⟩ x1).setCell ⟨g, 9, none⟩ x2).setCell ⟨g, 10, none⟩ x3).setCell ⟨g, 11, none⟩ x4).setCell ⟨g, 12, none⟩ x5).setCell ⟨g, 13, none⟩ x6) :=
  ((((((only_set w g 7 x0).setCell 8 x1).setCell 9 x2).setCell 10 x3).setCell 11 x4).setCell 12 x5).setCell 13 x6
end
/-- a walk writes blocks of its own alone -/
def OwnW (w : World) (k : Nat) : Prop := ∃ cur, w.heap[k]? = some (.cells cur 61 (0, 0)) ∨ w.heap[k]? = some (.cells cur 63 (0, 0))
structure Wr (B : Nat) (w w' : World) : Prop where
  os : w'.os = w.os
  tape : w'.tape = w.tape
  output : w'.output = w.output
  size : w.heap.size ≤ w'.heap.size
  block : ∀ k, k < w.heap.size → (B ≤ k → ¬ OwnW w k) → w'.heap[k]? = w.heap[k]?
theorem Wr.refl (B : Nat) (w : World) : Wr B w w := ⟨rfl, rfl, rfl, Nat.le_refl _, fun _ _ _ => rfl⟩
theorem Wr.trans {B : Nat} {a b c : World} (h : Wr B a b) (k : Wr B b c) : Wr B a c :=
  ⟨k.os.trans h.os, k.tape.trans h.tape, k.output.trans h.output, Nat.le_trans h.size k.size, fun i hi hn => by
    have e := h.block i hi hn
    refine (k.block i (Nat.lt_of_lt_of_le hi h.size) (fun hB ho => hn hB ?_)).trans e
    unfold OwnW at ho ⊢
    rw [e] at ho
    exact ho⟩
theorem Wr.of_kept {B : Nat} {F : Nat → Prop} {w w' : World} (h : Kept F w w') (hF : ∀ k, k < w.heap.size → F k → B ≤ k ∧ OwnW w k) : Wr B w w' :=
  ⟨h.os, h.tape, h.output, h.size, fun k hk hn => h.block k hk (fun hf => by
    obtain ⟨h1, h2⟩ := hF k hk hf
    exact hn h1 h2)⟩
theorem Wr.of_below {B : Nat} {w w' : World} (h : Below w.heap.size w w') : Wr B w w' := ⟨h.os, h.tape, h.output, h.size, fun k hk _ => h.block k hk⟩
theorem Kept.of_only {g : Nat} {w w' : World} (h : Only g w w') : Kept (fun k => k = g) w w' := ⟨h.1.os, h.1.tape, h.1.output, h.1.size, fun k _ hn => h.2.2 k hn⟩
theorem Wr.low {B : Nat} {w w' : World} (h : Wr B w w') (hB : B ≤ w.heap.size) : Below B w w' := ⟨h.os, h.tape, h.output, h.size, fun k hk => h.block k (by omega) (fun hb => by omega)⟩
/-- the blocks of Z are no walk's -/
def ZP (B : Nat) (Z : Nat → Prop) (w : World) : Prop := ∀ k, Z k → k < w.heap.size ∧ (B ≤ k → ¬ OwnW w k)
theorem Wr.zs {B : Nat} {Z : Nat → Prop} {w w' : World} (h : Wr B w w') (hZ : ZP B Z w) : Zs Z w w' := fun k hk => h.block k (hZ k hk).1 (hZ k hk).2
theorem Wr.zp {B : Nat} {Z : Nat → Prop} {w w' : World} (h : Wr B w w') (hZ : ZP B Z w) : ZP B Z w' := fun k hk => ⟨Nat.lt_of_lt_of_le (hZ k hk).1 h.size, fun hB ho => (hZ k hk).2 hB (by
  unfold OwnW at ho ⊢
  rw [h.zs hZ k hk] at ho
  exact ho)⟩
theorem own_take2 {w : World} {B : Nat} {e : TypeId} {g m cap : Nat} {xs : List Value} {x y : Value} (h : w.ownsRow B e 2 (.slice (some ⟨g, 0, none⟩) (m + 1) cap) (m + 1) (xs ++ [x, y])) :
    w.ownsRow B e 2 (.slice (some ⟨g, 0, none⟩) m cap) m xs ∧ w.cell? ⟨g, m * 2, none⟩ = some x ∧ w.cell? ⟨g, m * 2 + 1, none⟩ = some y ∧ B ≤ g ∧ g < w.heap.size ∧ m + 1 ≤ cap ∧ ∃ cur, w.heap[g]? = some (.cells cur e (0, 0)) := by
  obtain ⟨h1, ⟨h2, _⟩ | ⟨g', cap', cur, h2, hB, hg, hn, hm, hs, ht⟩⟩ := h
  · simp at h2
  · simp only [Value.slice.injEq, Option.some.injEq, Addr.mk.injEq, and_true, true_and] at h2
    obtain ⟨rfl, rfl⟩ := h2
    have hl : xs.length = m * 2 := by simp at h1; omega
    have e1 : cur.toList.take (m * 2) = xs := by
      have := congrArg (List.take (m * 2)) ht
      rw [List.take_take, Nat.min_eq_left (by omega)] at this
      rw [this]
      simp [← hl]
    have hc : ∀ j, w.cell? ⟨g, j, none⟩ = cur[j]? := fun j => by simp [World.cell?, hg]
    have q : ∀ j, j < (m + 1) * 2 → cur[j]? = (xs ++ [x, y])[j]? := fun j hj => by
      rw [← ht, List.getElem?_take, if_pos hj, Array.getElem?_toList]
    refine ⟨⟨by omega, .inr ⟨g, cap, cur, rfl, hB, hg, by omega, hm, hs, e1⟩⟩, ?_, ?_, hB, (Array.getElem?_eq_some_iff.1 hg).1, hn, cur, hg⟩
    · rw [hc, q _ (by omega), List.getElem?_append_right (by omega)]
      simp [hl]
    · rw [hc, q _ (by omega), List.getElem?_append_right (by omega), show m * 2 + 1 - xs.length = 1 by omega]
      rfl
theorem own_shape2 {w : World} {B : Nat} {e : TypeId} {v : Value} {m : Nat} {xs : List Value} (h : w.ownsRow B e 2 v m xs) : ∃ o cap, v = .slice o m cap ∧ (0 < m → ∃ g, o = some ⟨g, 0, none⟩) ∧ m ≤ cap ∧ (∀ k, v.ownBlock = some k → B ≤ k ∧ k < w.heap.size ∧ ∃ cur, w.heap[k]? = some (.cells cur e (0, 0))) := by
  obtain ⟨h1, ⟨h2, rfl⟩ | ⟨g', cap', cur, h2, hB, hg, hn, _⟩⟩ := h
  · exact ⟨none, 0, h2, fun h => by omega, Nat.le_refl _, fun k hk => by rw [h2] at hk; simp [Value.ownBlock] at hk⟩
  · refine ⟨_, cap', h2, fun _ => ⟨g', rfl⟩, hn, fun k hk => ?_⟩
    rw [h2] at hk
    simp only [Value.ownBlock, Option.some.injEq] at hk
    subst hk
    exact ⟨hB, (Array.getElem?_eq_some_iff.1 hg).1, cur, hg⟩
/-- nothing of it is left -/
theorem own_none {w : World} {B : Nat} {e : TypeId} {o : Option Addr} {m cap : Nat} {xs : List Value} (h : w.ownsRow B e 2 (.slice o m cap) m xs) : w.ownsRow B e 2 (.slice o 0 cap) 0 [] := by
  obtain ⟨h1, ⟨h2, rfl⟩ | ⟨g', cap', cur, h2, hB, hg, hn, hm, hs, ht⟩⟩ := h
  · exact ⟨rfl, .inl ⟨h2, rfl⟩⟩
  · simp only [Value.slice.injEq, true_and] at h2
    obtain ⟨rfl, rfl⟩ := h2
    exact ⟨rfl, .inr ⟨g', cap, cur, rfl, hB, hg, by omega, hm, hs, by simp⟩⟩
theorem own_block {w w' : World} {B : Nat} {e : TypeId} {v : Value} {m : Nat} {xs : List Value} (h : w.ownsRow B e 2 v m xs) (hb : ∀ k, v.ownBlock = some k → w'.heap[k]? = w.heap[k]?) : w'.ownsRow B e 2 v m xs := by
  obtain ⟨h1, h2 | ⟨g', cap', cur, h2, hB, hg, rest⟩⟩ := h
  · exact ⟨h1, .inl h2⟩
  · exact ⟨h1, .inr ⟨g', cap', cur, h2, hB, (hb g' (by rw [h2]; rfl)).trans hg, rest⟩⟩
structure Rp where
  oa : Option Addr
  ca : Nat
  la : List Tm
  ob : Option Addr
  cb : Nat
  lb : List Tm
def rpv : List Rp → List Value
  | [] => []
  | r :: st => rpv st ++ [.slice r.oa r.la.length r.ca, .slice r.ob r.lb.length r.cb]
def RpOk (Z : Nat → Prop) (w : World) (e : Nat) (r : Rp) : Prop := r.la ≠ [] ∧ r.la.length = r.lb.length ∧ r.la.length ≤ r.ca ∧ r.lb.length ≤ r.cb ∧ TR Z w r.la r.oa ∧ TR Z w r.lb r.ob ∧ wfL r.la ∧ wfL r.lb ∧ depL r.la ≤ e
def StO (Z : Nat → Prop) (w : World) : Nat → List Rp → Prop
  | _, [] => True
  | e, r :: st => RpOk Z w e r ∧ StO Z w (e + 1) st
theorem RpOk.zs {Z : Nat → Prop} {w w' : World} (hb : Zs Z w w') {e : Nat} {r : Rp} (h : RpOk Z w e r) : RpOk Z w' e r :=
  ⟨h.1, h.2.1, h.2.2.1, h.2.2.2.1, TR.zs hb _ _ h.2.2.2.2.1, TR.zs hb _ _ h.2.2.2.2.2.1, h.2.2.2.2.2.2⟩
theorem StO.zs {Z : Nat → Prop} {w w' : World} (hb : Zs Z w w') : ∀ (e : Nat) (st : List Rp), StO Z w e st → StO Z w' e st
  | _, [], _ => trivial
  | e, r :: st, h => ⟨h.1.zs hb, StO.zs hb (e + 1) st h.2⟩
def cSt : List Rp → Int
  | [] => 0
  | r :: st => lx (cR r.la r.lb) (cSt st)
def mSt : List Rp → Nat
  | [] => 0
  | r :: st => (partsL r.la).length + mSt st
theorem rpv_length : ∀ st : List Rp, (rpv st).length = st.length * 2
  | [] => rfl
  | r :: st => by simp [rpv, rpv_length st]; omega
end Go.Proofs.YtpdoepjnkgffpaaDoor
