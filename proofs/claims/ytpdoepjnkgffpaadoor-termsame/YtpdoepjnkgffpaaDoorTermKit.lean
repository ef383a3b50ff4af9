/- Terms in memory; a part of a term without what its kind does not use. -/
import Derived.Test.YtpdoepjnkgffpaaDoorTermBigA
import Derived.Handy
namespace Go.Proofs.YtpdoepjnkgffpaaDoor
open Go.ChangeShapes Go.WideShapes Go.ChangeAt Go.RowKit
set_option linter.unusedSimpArgs false
set_option linter.unusedVariables false
set_option maxRecDepth 2000
/-- a struct of seven cells in a block of its own -/
structure Bx (g : Nat) (a0 a1 a2 a3 a4 a5 a6 : Value) (w : World) : Prop where
  c0 : w.cell? ⟨g, 0, none⟩ = some a0
  c1 : w.cell? ⟨g, 1, none⟩ = some a1
  c2 : w.cell? ⟨g, 2, none⟩ = some a2
  c3 : w.cell? ⟨g, 3, none⟩ = some a3
  c4 : w.cell? ⟨g, 4, none⟩ = some a4
  c5 : w.cell? ⟨g, 5, none⟩ = some a5
  c6 : w.cell? ⟨g, 6, none⟩ = some a6
  fr : ∀ j, w.frozen? ⟨g, j, none⟩ = false
theorem Bx.lt {g : Nat} {a0 a1 a2 a3 a4 a5 a6 : Value} {w : World} (h : Bx g a0 a1 a2 a3 a4 a5 a6 w) : g < w.heap.size := World.block_lt_of_cell? _ _ h.c0
theorem Bx.of_block {g : Nat} {a0 a1 a2 a3 a4 a5 a6 : Value} {w w' : World} (h : Bx g a0 a1 a2 a3 a4 a5 a6 w) (hb : w'.heap[g]? = w.heap[g]?) : Bx g a0 a1 a2 a3 a4 a5 a6 w' :=
  ⟨(World.cell?_of_block (a := ⟨g, 0, none⟩) hb).trans h.c0, (World.cell?_of_block (a := ⟨g, 1, none⟩) hb).trans h.c1, (World.cell?_of_block (a := ⟨g, 2, none⟩) hb).trans h.c2, (World.cell?_of_block (a := ⟨g, 3, none⟩) hb).trans h.c3, (World.cell?_of_block (a := ⟨g, 4, none⟩) hb).trans h.c4, (World.cell?_of_block (a := ⟨g, 5, none⟩) hb).trans h.c5, (World.cell?_of_block (a := ⟨g, 6, none⟩) hb).trans h.c6, fun j => (World.frozen?_of_block (a := ⟨g, j, none⟩) hb).trans (h.fr j)⟩
theorem Bx.below {g : Nat} {a0 a1 a2 a3 a4 a5 a6 : Value} {w w' : World} (h : Bx g a0 a1 a2 a3 a4 a5 a6 w) (hb : Below w.heap.size w w') : Bx g a0 a1 a2 a3 a4 a5 a6 w' := h.of_block (hb.block g h.lt)
theorem Bx.new (w : World) (a0 a1 a2 a3 a4 a5 a6 : Value) (t : TypeId) : Bx w.heap.size a0 a1 a2 a3 a4 a5 a6 (w.alloc (.cells #[a0, a1, a2, a3, a4, a5, a6] t)) := by
  refine ⟨?_, ?_, ?_, ?_, ?_, ?_, ?_, fun j => by rw [World.frozen?_alloc_mark]; simp⟩
  all_goals (rw [World.cell?_alloc_mark]; rfl)
theorem cell_set_other (w : World) (g i j : Nat) (v : Value) (h : i ≠ j) : (w.setCell ⟨g, i, none⟩ v).cell? ⟨g, j, none⟩ = w.cell? ⟨g, j, none⟩ := World.cell?_setCell_other w ⟨g, i, none⟩ ⟨g, j, none⟩ _ (by simp [h])
theorem fr_set (w : World) (g i : Nat) (v : Value) (p : Addr) : (w.setCell ⟨g, i, none⟩ v).frozen? p = w.frozen? p := World.frozen?_setCells g [v] i w p
theorem only_set (w : World) (g i : Nat) (v : Value) : Only g w (w.setCell ⟨g, i, none⟩ v) := (Only.refl g w).setCell i v
theorem Bx.s0 {g : Nat} {a0 a1 a2 a3 a4 a5 a6 : Value} {w : World} (h : Bx g a0 a1 a2 a3 a4 a5 a6 w) (x : Value) : Bx g x a1 a2 a3 a4 a5 a6 (w.setCell ⟨g, 0, none⟩ x) :=
  ⟨World.cell?_setCell_same _ _ _ h.c0, (cell_set_other w g 0 1 x (by decide)).trans h.c1, (cell_set_other w g 0 2 x (by decide)).trans h.c2, (cell_set_other w g 0 3 x (by decide)).trans h.c3, (cell_set_other w g 0 4 x (by decide)).trans h.c4, (cell_set_other w g 0 5 x (by decide)).trans h.c5, (cell_set_other w g 0 6 x (by decide)).trans h.c6, fun j => (fr_set w g 0 x _).trans (h.fr j)⟩
theorem Bx.s1 {g : Nat} {a0 a1 a2 a3 a4 a5 a6 : Value} {w : World} (h : Bx g a0 a1 a2 a3 a4 a5 a6 w) (x : Value) : Bx g a0 x a2 a3 a4 a5 a6 (w.setCell ⟨g, 1, none⟩ x) :=
  ⟨(cell_set_other w g 1 0 x (by decide)).trans h.c0, World.cell?_setCell_same _ _ _ h.c1, (cell_set_other w g 1 2 x (by decide)).trans h.c2, (cell_set_other w g 1 3 x (by decide)).trans h.c3, (cell_set_other w g 1 4 x (by decide)).trans h.c4, (cell_set_other w g 1 5 x (by decide)).trans h.c5, (cell_set_other w g 1 6 x (by decide)).trans h.c6, fun j => (fr_set w g 1 x _).trans (h.fr j)⟩
theorem Bx.s2 {g : Nat} {a0 a1 a2 a3 a4 a5 a6 : Value} {w : World} (h : Bx g a0 a1 a2 a3 a4 a5 a6 w) (x : Value) : Bx g a0 a1 x a3 a4 a5 a6 (w.setCell ⟨g, 2, none⟩ x) :=
  ⟨(cell_set_other w g 2 0 x (by decide)).trans h.c0, (cell_set_other w g 2 1 x (by decide)).trans h.c1, World.cell?_setCell_same _ _ _ h.c2, (cell_set_other w g 2 3 x (by decide)).trans h.c3, (cell_set_other w g 2 4 x (by decide)).trans h.c4, (cell_set_other w g 2 5 x (by decide)).trans h.c5, (cell_set_other w g 2 6 x (by decide)).trans h.c6, fun j => (fr_set w g 2 x _).trans (h.fr j)⟩
theorem Bx.s3 {g : Nat} {a0 a1 a2 a3 a4 a5 a6 : Value} {w : World} (h : Bx g a0 a1 a2 a3 a4 a5 a6 w) (x : Value) : Bx g a0 a1 a2 x a4 a5 a6 (w.setCell ⟨g, 3, none⟩ x) :=
  ⟨(cell_set_other w g 3 0 x (by decide)).trans h.c0, (cell_set_other w g 3 1 x (by decide)).trans h.c1, (cell_set_other w g 3 2 x (by decide)).trans h.c2, World.cell?_setCell_same _ _ _ h.c3, (cell_set_other w g 3 4 x (by decide)).trans h.c4, (cell_set_other w g 3 5 x (by decide)).trans h.c5, (cell_set_other w g 3 6 x (by decide)).trans h.c6, fun j => (fr_set w g 3 x _).trans (h.fr j)⟩
theorem Bx.s4 {g : Nat} {a0 a1 a2 a3 a4 a5 a6 : Value} {w : World} (h : Bx g a0 a1 a2 a3 a4 a5 a6 w) (x : Value) : Bx g a0 a1 a2 a3 x a5 a6 (w.setCell ⟨g, 4, none⟩ x) :=
  ⟨(cell_set_other w g 4 0 x (by decide)).trans h.c0, (cell_set_other w g 4 1 x (by decide)).trans h.c1, (cell_set_other w g 4 2 x (by decide)).trans h.c2, (cell_set_other w g 4 3 x (by decide)).trans h.c3, World.cell?_setCell_same _ _ _ h.c4, (cell_set_other w g 4 5 x (by decide)).trans h.c5, (cell_set_other w g 4 6 x (by decide)).trans h.c6, fun j => (fr_set w g 4 x _).trans (h.fr j)⟩
theorem Bx.s5 {g : Nat} {a0 a1 a2 a3 a4 a5 a6 : Value} {w : World} (h : Bx g a0 a1 a2 a3 a4 a5 a6 w) (x : Value) : Bx g a0 a1 a2 a3 a4 x a6 (w.setCell ⟨g, 5, none⟩ x) :=
  ⟨(cell_set_other w g 5 0 x (by decide)).trans h.c0, (cell_set_other w g 5 1 x (by decide)).trans h.c1, (cell_set_other w g 5 2 x (by decide)).trans h.c2, (cell_set_other w g 5 3 x (by decide)).trans h.c3, (cell_set_other w g 5 4 x (by decide)).trans h.c4, World.cell?_setCell_same _ _ _ h.c5, (cell_set_other w g 5 6 x (by decide)).trans h.c6, fun j => (fr_set w g 5 x _).trans (h.fr j)⟩
theorem Bx.s6 {g : Nat} {a0 a1 a2 a3 a4 a5 a6 : Value} {w : World} (h : Bx g a0 a1 a2 a3 a4 a5 a6 w) (x : Value) : Bx g a0 a1 a2 a3 a4 a5 x (w.setCell ⟨g, 6, none⟩ x) :=
  ⟨(cell_set_other w g 6 0 x (by decide)).trans h.c0, (cell_set_other w g 6 1 x (by decide)).trans h.c1, (cell_set_other w g 6 2 x (by decide)).trans h.c2, (cell_set_other w g 6 3 x (by decide)).trans h.c3, (cell_set_other w g 6 4 x (by decide)).trans h.c4, (cell_set_other w g 6 5 x (by decide)).trans h.c5, World.cell?_setCell_same _ _ _ h.c6, fun j => (fr_set w g 6 x _).trans (h.fr j)⟩
/-- a struct stored whole -/
theorem Bx.put {g : Nat} {a0 a1 a2 a3 a4 a5 a6 b0 b1 b2 b3 b4 b5 b6 : Value} {w : World} (h : Bx g a0 a1 a2 a3 a4 a5 a6 w) :
    Bx g b0 b1 b2 b3 b4 b5 b6 (((((((w.setCell ⟨g, 0, none⟩ b0).setCell ⟨g, 1, none⟩ b1).setCell ⟨g, 2, none⟩ b2).setCell ⟨g, 3, none⟩ b3).setCell ⟨g, 4, none⟩ b4).setCell ⟨g, 5, none⟩ b5).setCell ⟨g, 6, none⟩ b6) :=
  ((((((h.s0 b0).s1 b1).s2 b2).s3 b3).s4 b4).s5 b5).s6 b6
theorem only_put (w : World) (g : Nat) (b0 b1 b2 b3 b4 b5 b6 : Value) : Only g w (((((((w.setCell ⟨g, 0, none⟩ b0).setCell ⟨g, 1, none⟩ b1).setCell ⟨g, 2, none⟩ b2).setCell ⟨g, 3, none⟩ b3).setCell ⟨g, 4, none⟩ b4).setCell ⟨g, 5, none⟩ b5).setCell ⟨g, 6, none⟩ b6) :=
  ((((((only_set w g 0 b0).setCell 1 b1).setCell 2 b2).setCell 3 b3).setCell 4 b4).setCell 5 b5).setCell 6 b6
theorem Bx.only {g k : Nat} {a0 a1 a2 a3 a4 a5 a6 : Value} {w w' : World} (h : Bx k a0 a1 a2 a3 a4 a5 a6 w) (ho : Only g w w') (hk : k ≠ g) : Bx k a0 a1 a2 a3 a4 a5 a6 w' := h.of_block (ho.2.2 k hk)
abbrev nilS : Value := .slice none 0 0
abbrev noS : ByteArray := { data := #[] }
abbrev tmV (k : Int) (neg : Bool) (D : Value) (nm : ByteArray) (n : Int) (L B : Value) : Value := .agg #[.int .i64 k, .bool neg, D, .string nm, .int .i64 n, L, B]
/-- what a term's kind uses -/
def prV (k : Int) (neg : Bool) (D : Value) (nm : ByteArray) (n : Int) (L B : Value) : Value :=
  if k = 0 then tmV 0 neg D noS 0 nilS nilS
  else if k = 1 then tmV 1 false nilS nm 0 nilS nilS
  else if k = 2 then tmV 2 false nilS noS n nilS nilS
  else if k = 3 then tmV 3 false nilS noS n nilS nilS
  else if k = 4 then tmV 4 false nilS noS 0 L nilS
  else if k = 6 then tmV 6 false nilS noS 0 L nilS
  else if k = 7 then tmV 7 false nilS noS 0 nilS B
  else tmV 5 false nilS noS 0 nilS nilS
set_option maxHeartbeats 1000000 in
theorem Nil_w (w : World) : Calls Tryd.prog 56 #[] w fun e w' => e = .returned (tmV 5 false nilS noS 0 nilS nilS) ∧ Below w.heap.size w w' := by
  go_enter Tryd.func56, Tryd.ntmps56
  go_wp2
  exact bodyPost_ret (v := tmV 5 false nilS noS 0 nilS nilS) (by simp [results, Tryd.results56, go_sem]) rfl ⟨rfl, (Below.refl _ w).alloc (Nat.le_refl _) _⟩
theorem bx2 (w : World) (a0 a1 a2 a3 a4 a5 a6 b0 b1 b2 b3 b4 b5 b6 : Value) (ta tb : TypeId) :
    Bx w.heap.size a0 a1 a2 a3 a4 a5 a6 ((w.alloc (.cells #[a0, a1, a2, a3, a4, a5, a6] ta)).alloc (.cells #[b0, b1, b2, b3, b4, b5, b6] tb)) ∧ Bx (w.heap.size + 1) b0 b1 b2 b3 b4 b5 b6 ((w.alloc (.cells #[a0, a1, a2, a3, a4, a5, a6] ta)).alloc (.cells #[b0, b1, b2, b3, b4, b5, b6] tb)) ∧ Below w.heap.size w ((w.alloc (.cells #[a0, a1, a2, a3, a4, a5, a6] ta)).alloc (.cells #[b0, b1, b2, b3, b4, b5, b6] tb)) ∧ ((w.alloc (.cells #[a0, a1, a2, a3, a4, a5, a6] ta)).alloc (.cells #[b0, b1, b2, b3, b4, b5, b6] tb)).heap.size = w.heap.size + 2 := by
  have h1 := Bx.new w a0 a1 a2 a3 a4 a5 a6 ta
  have h2 := Bx.new (w.alloc (.cells #[a0, a1, a2, a3, a4, a5, a6] ta)) b0 b1 b2 b3 b4 b5 b6 tb
  rw [World.size_alloc] at h2
  exact ⟨h1.below ((Below.refl _ _).alloc (Nat.le_refl _) _), h2, ((Below.refl _ w).alloc (Nat.le_refl _) _).alloc (by simp) _, by simp⟩
set_option maxHeartbeats 2000000 in
theorem pruned_w (k : Int) (neg : Bool) (od : Option Addr) (ld cd : Nat) (nm : ByteArray) (n : Int) (ol : Option Addr) (ll cl : Nat) (ob : Option Addr) (lb cb : Nat) (w : World) :
    Calls Tryd.prog 40 #[tmV k neg (.slice od ld cd) nm n (.slice ol ll cl) (.slice ob lb cb)] w fun e w' => e = .returned (prV k neg (.slice od ld cd) nm n (.slice ol ll cl) (.slice ob lb cb)) ∧ Below w.heap.size w w' := by
  by_cases h0 : k = 0
  · subst h0
    go_enter Tryd.func40, Tryd.ntmps40
    go_wp2
    exact bodyPost_ret (v := tmV 0 neg (.slice od ld cd) noS 0 nilS nilS) (by simp [results, Tryd.results40, go_sem]) rfl ⟨by simp [prV, *], ((Below.refl _ w).alloc (Nat.le_refl _) _).alloc (by simp) _⟩
  by_cases h1 : k = 1
  · subst h1
    go_enter Tryd.func40, Tryd.ntmps40
    go_wp2
    exact bodyPost_ret (v := tmV 1 false nilS nm 0 nilS nilS) (by simp [results, Tryd.results40, go_sem]) rfl ⟨by simp [prV, *], ((Below.refl _ w).alloc (Nat.le_refl _) _).alloc (by simp) _⟩
  by_cases h2 : k = 2
  · subst h2
    go_enter Tryd.func40, Tryd.ntmps40
    go_wp2
    exact bodyPost_ret (v := tmV 2 false nilS noS n nilS nilS) (by simp [results, Tryd.results40, go_sem]) rfl ⟨by simp [prV, *], ((Below.refl _ w).alloc (Nat.le_refl _) _).alloc (by simp) _⟩
  by_cases h3 : k = 3
  · subst h3
    go_enter Tryd.func40, Tryd.ntmps40
    go_wp2
    exact bodyPost_ret (v := tmV 3 false nilS noS n nilS nilS) (by simp [results, Tryd.results40, go_sem]) rfl ⟨by simp [prV, *], ((Below.refl _ w).alloc (Nat.le_refl _) _).alloc (by simp) _⟩
  by_cases h4 : k = 4
  · subst h4
    go_enter Tryd.func40, Tryd.ntmps40
    go_wp2
    exact bodyPost_ret (v := tmV 4 false nilS noS 0 (.slice ol ll cl) nilS) (by simp [results, Tryd.results40, go_sem]) rfl ⟨by simp [prV, *], ((Below.refl _ w).alloc (Nat.le_refl _) _).alloc (by simp) _⟩
  by_cases h6 : k = 6
  · subst h6
    go_enter Tryd.func40, Tryd.ntmps40
    go_wp2
    exact bodyPost_ret (v := tmV 6 false nilS noS 0 (.slice ol ll cl) nilS) (by simp [results, Tryd.results40, go_sem]) rfl ⟨by simp [prV, *], ((Below.refl _ w).alloc (Nat.le_refl _) _).alloc (by simp) _⟩
  by_cases h7 : k = 7
  · subst h7
    go_enter Tryd.func40, Tryd.ntmps40
    go_wp2
    exact bodyPost_ret (v := tmV 7 false nilS noS 0 nilS (.slice ob lb cb)) (by simp [results, Tryd.results40, go_sem]) rfl ⟨by simp [prV, *], ((Below.refl _ w).alloc (Nat.le_refl _) _).alloc (by simp) _⟩
  have e0 : (k == 0) = false := by simp [h0]
  have e1 : (k == 1) = false := by simp [h1]
  have e2 : (k == 2) = false := by simp [h2]
  have e3 : (k == 3) = false := by simp [h3]
  have e4 : (k == 4) = false := by simp [h4]
  have e6 : (k == 6) = false := by simp [h6]
  have e7 : (k == 7) = false := by simp [h7]
  go_enter Tryd.func40, Tryd.ntmps40
  obtain ⟨kA, kB, hB0, hz0⟩ := bx2 w (.int .i64 k) (.bool neg) (.slice od ld cd) (.string nm) (.int .i64 n) (.slice ol ll cl) (.slice ob lb cb) (.int .i64 0) (.bool false) nilS (.string noS) (.int .i64 0) nilS nilS 31 31
  go_wp2_with fail
  generalize ((w.alloc (.cells #[.int .i64 k, .bool neg, .slice od ld cd, .string nm, .int .i64 n, .slice ol ll cl, .slice ob lb cb] 31)).alloc (.cells #[.int .i64 0, .bool false, .slice none 0 0, .string { data := #[] }, .int .i64 0, .slice none 0 0, .slice none 0 0] 31)) = W0 at *
  refine (Nil_w _).mono ?_
  rintro e w1 ⟨rfl, b1⟩
  have kB1 := kB.below b1
  have hf := kB1.fr
  obtain ⟨r0, r1, r2, r3, r4, r5, r6, _⟩ := kB1.put (b0 := .int .i64 5) (b1 := .bool false) (b2 := nilS) (b3 := .string noS) (b4 := .int .i64 0) (b5 := nilS) (b6 := nilS)
  obtain ⟨f0, f1, f2, f3, f4, f5, f6, _⟩ := id kB1
  go_wp2
  exact bodyPost_ret (v := tmV 5 false nilS noS 0 nilS nilS) (by simp [results, Tryd.results40, go_sem, r0, r1, r2, r3, r4, r5, r6]) rfl ⟨by simp [prV, *], (only_put w1 (w.heap.size + 1) _ _ _ _ _ _ _).below (B := w.heap.size) (by omega) |> (below_and hB0 (Nat.le_refl _) b1).trans⟩
end Go.Proofs.YtpdoepjnkgffpaaDoor
