/- Texts of mine, one behind the other: TermKit, TermMem, Lays, RunesMath, TermSmall, TermCount, RunesSmall, RunesCount. -/
import Derived.Test.YtjacoodfhkaioabGreatDoorSrC
import Derived.Handy
import Derived.Shelf.Small.Utf8
import Derived.Shelf.Small.Strs
import Derived.Shelf.Small.Wraps
import Derived.Shelf.Utf8.AppendRune
import Derived.Shelf.LaysM
import Derived.Shelf.Strconv.AppendIntPublic10
import Derived.Shelf.Strconv.Clone
import Derived.Shelf.Strings.Prefix
import Derived.Shelf.Unicode.DecodeAny
import Derived.Shelf.Unicode.ValidAny
import Derived.Shelf.Spec.EncodeRune
import Derived.Shelf.Spec.TrailingZeros
import Derived.Shelf.Lays7
import Derived.Ground.NamesProg
import Derived.Ground.Names7Prog
import Derived.Ground.Names2Prog
import Derived.Test.YtjacoodfhkaioabGreatDoorProg
import Derived.Lib.ValidLaws
import Derived.Lib.MapLaws
import Derived.Lib.RuneBytes
import Derived.Below
import Derived.Deep.Light
import Derived.WalkKit
import Derived.Laws.Closers25
import Derived.Lib.OthersKept
import Derived.Test.YtjacoodfhkaioabGreatDoorRows
namespace Go.Proofs.YtjacoodfhkaioabGreatDoor
open Go.ChangeShapes Go.WideShapes Go.ChangeAt Go.RowKit
set_option linter.unusedSimpArgs false
set_option linter.unusedVariables false
set_option maxRecDepth 2000
/-- a struct of seven cells in a block of its own -/
structure Bx (g : Nat) (a0 a1 a2 a3 a4 a5 a6 : Value) (w : World) : Prop where
  c0 : w.cell? ⟨g, 0, none⟩ = some a0
  c1 : w.cell? ⟨g, 1, none⟩ = some a1
  c2 : w.cell? ⟨g, 2, none⟩ = some a2
  c3 : w.cell? ⟨g, 3, none⟩ = some a3
  c4 : w.cell? ⟨g, 4, none⟩ = some a4
  c5 : w.cell? ⟨g, 5, none⟩ = some a5
  c6 : w.cell? ⟨g, 6, none⟩ = some a6
  fr : ∀ j, w.frozen? ⟨g, j, none⟩ = false
theorem Bx.lt {g : Nat} {a0 a1 a2 a3 a4 a5 a6 : Value} {w : World} (h : Bx g a0 a1 a2 a3 a4 a5 a6 w) : g < w.heap.size := World.block_lt_of_cell? _ _ h.c0
theorem Bx.of_block {g : Nat} {a0 a1 a2 a3 a4 a5 a6 : Value} {w w' : World} (h : Bx g a0 a1 a2 a3 a4 a5 a6 w) (hb : w'.heap[g]? = w.heap[g]?) : Bx g a0 a1 a2 a3 a4 a5 a6 w' :=
  ⟨(World.cell?_of_block (a := ⟨g, 0, none⟩) hb).trans h.c0, (World.cell?_of_block (a := ⟨g, 1, none⟩) hb).trans h.c1, (World.cell?_of_block (a := ⟨g, 2, none⟩) hb).trans h.c2, (World.cell?_of_block (a := ⟨g, 3, none⟩) hb).trans h.c3, (World.cell?_of_block (a := ⟨g, 4, none⟩) hb).trans h.c4, (World.cell?_of_block (a := ⟨g, 5, none⟩) hb).trans h.c5, (World.cell?_of_block (a := ⟨g, 6, none⟩) hb).trans h.c6, fun j => (World.frozen?_of_block (a := ⟨g, j, none⟩) hb).trans (h.fr j)⟩
theorem Bx.below {g : Nat} {a0 a1 a2 a3 a4 a5 a6 : Value} {w w' : World} (h : Bx g a0 a1 a2 a3 a4 a5 a6 w) (hb : Below w.heap.size w w') : Bx g a0 a1 a2 a3 a4 a5 a6 w' := h.of_block (hb.block g h.lt)
theorem Bx.new (w : World) (a0 a1 a2 a3 a4 a5 a6 : Value) (t : TypeId) : Bx w.heap.size a0 a1 a2 a3 a4 a5 a6 (w.alloc (.cells #[a0, a1, a2, a3, a4, a5, a6] t)) := by
  refine ⟨?_, ?_, ?_, ?_, ?_, ?_, ?_, fun j => by rw [World.frozen?_alloc_mark]; simp⟩
  all_goals (rw [World.cell?_alloc_mark]; rfl)
theorem cell_set_other (w : World) (g i j : Nat) (v : Value) (h : i ≠ j) : (w.setCell ⟨g, i, none⟩ v).cell? ⟨g, j, none⟩ = w.cell? ⟨g, j, none⟩ := World.cell?_setCell_other w ⟨g, i, none⟩ ⟨g, j, none⟩ _ (by simp [h])
theorem fr_set (w : World) (g i : Nat) (v : Value) (p : Addr) : (w.setCell ⟨g, i, none⟩ v).frozen? p = w.frozen? p := World.frozen?_setCells g [v] i w p
theorem only_set (w : World) (g i : Nat) (v : Value) : Only g w (w.setCell ⟨g, i, none⟩ v) := (Only.refl g w).setCell i v
theorem Bx.s0 {g : Nat} {a0 a1 a2 a3 a4 a5 a6 : Value} {w : World} (h : Bx g a0 a1 a2 a3 a4 a5 a6 w) (x : Value) : Bx g x a1 a2 a3 a4 a5 a6 (w.setCell ⟨g, 0, none⟩ x) :=
  ⟨World.cell?_setCell_same _ _ _ h.c0, (cell_set_other w g 0 1 x (by decide)).trans h.c1, (cell_set_other w g 0 2 x (by decide)).trans h.c2, (cell_set_other w g 0 3 x (by decide)).trans h.c3, (cell_set_other w g 0 4 x (by decide)).trans h.c4, (cell_set_other w g 0 5 x (by decide)).trans h.c5, (cell_set_other w g 0 6 x (by decide)).trans h.c6, fun j => (fr_set w g 0 x _).trans (h.fr j)⟩
theorem Bx.s1 {g : Nat} {a0 a1 a2 a3 a4 a5 a6 : Value} {w : World} (h : Bx g a0 a1 a2 a3 a4 a5 a6 w) (x : Value) : Bx g a0 x a2 a3 a4 a5 a6 (w.setCell ⟨g, 1, none⟩ x) :=
  ⟨(cell_set_other w g 1 0 x (by decide)).trans h.c0, World.cell?_setCell_same _ _ _ h.c1, (cell_set_other w g 1 2 x (by decide)).trans h.c2, (cell_set_other w g 1 3 x (by decide)).trans h.c3, (cell_set_other w g 1 4 x (by decide)).trans h.c4, (cell_set_other w g 1 5 x (by decide)).trans h.c5, (cell_set_other w g 1 6 x (by decide)).trans h.c6, fun j => (fr_set w g 1 x _).trans (h.fr j)⟩
theorem Bx.s2 {g : Nat} {a0 a1 a2 a3 a4 a5 a6 : Value} {w : World} (h : Bx g a0 a1 a2 a3 a4 a5 a6 w) (x : Value) : Bx g a0 a1 x a3 a4 a5 a6 (w.setCell ⟨g, 2, none⟩ x) :=
  ⟨(cell_set_other w g 2 0 x (by decide)).trans h.c0, (cell_set_other w g 2 1 x (by decide)).trans h.c1, World.cell?_setCell_same _ _ _ h.c2, (cell_set_other w g 2 3 x (by decide)).trans h.c3, (cell_set_other w g 2 4 x (by decide)).trans h.c4, (cell_set_other w g 2 5 x (by decide)).trans h.c5, (cell_set_other w g 2 6 x (by decide)).trans h.c6, fun j => (fr_set w g 2 x _).trans (h.fr j)⟩
theorem Bx.s3 {g : Nat} {a0 a1 a2 a3 a4 a5 a6 : Value} {w : World} (h : Bx g a0 a1 a2 a3 a4 a5 a6 w) (x : Value) : Bx g a0 a1 a2 x a4 a5 a6 (w.setCell ⟨g, 3, none⟩ x) :=
  ⟨(cell_set_other w g 3 0 x (by decide)).trans h.c0, (cell_set_other w g 3 1 x (by decide)).trans h.c1, (cell_set_other w g 3 2 x (by decide)).trans h.c2, World.cell?_setCell_same _ _ _ h.c3, (cell_set_other w g 3 4 x (by decide)).trans h.c4, (cell_set_other w g 3 5 x (by decide)).trans h.c5, (cell_set_other w g 3 6 x (by decide)).trans h.c6, fun j => (fr_set w g 3 x _).trans (h.fr j)⟩
theorem Bx.s4 {g : Nat} {a0 a1 a2 a3 a4 a5 a6 : Value} {w : World} (h : Bx g a0 a1 a2 a3 a4 a5 a6 w) (x : Value) : Bx g a0 a1 a2 a3 x a5 a6 (w.setCell ⟨g, 4, none⟩ x) :=
  ⟨(cell_set_other w g 4 0 x (by decide)).trans h.c0, (cell_set_other w g 4 1 x (by decide)).trans h.c1, (cell_set_other w g 4 2 x (by decide)).trans h.c2, (cell_set_other w g 4 3 x (by decide)).trans h.c3, World.cell?_setCell_same _ _ _ h.c4, (cell_set_other w g 4 5 x (by decide)).trans h.c5, (cell_set_other w g 4 6 x (by decide)).trans h.c6, fun j => (fr_set w g 4 x _).trans (h.fr j)⟩
theorem Bx.s5 {g : Nat} {a0 a1 a2 a3 a4 a5 a6 : Value} {w : World} (h : Bx g a0 a1 a2 a3 a4 a5 a6 w) (x : Value) : Bx g a0 a1 a2 a3 a4 x a6 (w.setCell ⟨g, 5, none⟩ x) :=
  ⟨(cell_set_other w g 5 0 x (by decide)).trans h.c0, (cell_set_other w g 5 1 x (by decide)).trans h.c1, (cell_set_other w g 5 2 x (by decide)).trans h.c2, (cell_set_other w g 5 3 x (by decide)).trans h.c3, (cell_set_other w g 5 4 x (by decide)).trans h.c4, World.cell?_setCell_same _ _ _ h.c5, (cell_set_other w g 5 6 x (by decide)).trans h.c6, fun j => (fr_set w g 5 x _).trans (h.fr j)⟩
theorem Bx.s6 {g : Nat} {a0 a1 a2 a3 a4 a5 a6 : Value} {w : World} (h : Bx g a0 a1 a2 a3 a4 a5 a6 w) (x : Value) : Bx g a0 a1 a2 a3 a4 a5 x (w.setCell ⟨g, 6, none⟩ x) :=
  ⟨(cell_set_other w g 6 0 x (by decide)).trans h.c0, (cell_set_other w g 6 1 x (by decide)).trans h.c1, (cell_set_other w g 6 2 x (by decide)).trans h.c2, (cell_set_other w g 6 3 x (by decide)).trans h.c3, (cell_set_other w g 6 4 x (by decide)).trans h.c4, (cell_set_other w g 6 5 x (by decide)).trans h.c5, World.cell?_setCell_same _ _ _ h.c6, fun j => (fr_set w g 6 x _).trans (h.fr j)⟩
/-- a struct stored whole -/
theorem Bx.put {g : Nat} {a0 a1 a2 a3 a4 a5 a6 b0 b1 b2 b3 b4 b5 b6 : Value} {w : World} (h : Bx g a0 a1 a2 a3 a4 a5 a6 w) :
    Bx g b0 b1 b2 b3 b4 b5 b6 (((((((w.setCell ⟨g, 0, none⟩ b0).setCell ⟨g, 1, none⟩ b1).setCell ⟨g, 2, none⟩ b2).setCell ⟨g, 3, none⟩ b3).setCell ⟨g, 4, none⟩ b4).setCell ⟨g, 5, none⟩ b5).setCell ⟨g, 6, none⟩ b6) :=
  ((((((h.s0 b0).s1 b1).s2 b2).s3 b3).s4 b4).s5 b5).s6 b6
theorem only_put (w : World) (g : Nat) (b0 b1 b2 b3 b4 b5 b6 : Value) : Only g w (((((((w.setCell ⟨g, 0, none⟩ b0).setCell ⟨g, 1, none⟩ b1).setCell ⟨g, 2, none⟩ b2).setCell ⟨g, 3, none⟩ b3).setCell ⟨g, 4, none⟩ b4).setCell ⟨g, 5, none⟩ b5).setCell ⟨g, 6, none⟩ b6) :=
  ((((((only_set w g 0 b0).setCell 1 b1).setCell 2 b2).setCell 3 b3).setCell 4 b4).setCell 5 b5).setCell 6 b6
theorem Bx.only {g k : Nat} {a0 a1 a2 a3 a4 a5 a6 : Value} {w w' : World} (h : Bx k a0 a1 a2 a3 a4 a5 a6 w) (ho : Only g w w') (hk : k ≠ g) : Bx k a0 a1 a2 a3 a4 a5 a6 w' := h.of_block (ho.2.2 k hk)
abbrev nilS : Value := .slice none 0 0
abbrev noS : ByteArray := { data := #[] }
abbrev tmV (k : Int) (neg : Bool) (D : Value) (nm : ByteArray) (n : Int) (L B : Value) : Value := .agg #[.int .i64 k, .bool neg, D, .string nm, .int .i64 n, L, B]
/-- what a term's kind uses -/
def prV (k : Int) (neg : Bool) (D : Value) (nm : ByteArray) (n : Int) (L B : Value) : Value :=
  if k = 0 then tmV 0 neg D noS 0 nilS nilS
  else if k = 1 then tmV 1 false nilS nm 0 nilS nilS
  else if k = 2 then tmV 2 false nilS noS n nilS nilS
  else if k = 3 then tmV 3 false nilS noS n nilS nilS
  else if k = 4 then tmV 4 false nilS noS 0 L nilS
  else if k = 6 then tmV 6 false nilS noS 0 L nilS
  else if k = 7 then tmV 7 false nilS noS 0 nilS B
  else tmV 5 false nilS noS 0 nilS nilS
set_option maxHeartbeats 1000000 in
theorem Nil_w (w : World) : Calls Tryz.prog 55 #[] w fun e w' => e = .returned (tmV 5 false nilS noS 0 nilS nilS) ∧ Below w.heap.size w w' := by
  go_enter Tryz.func55, Tryz.ntmps55
  go_wp2
  exact bodyPost_ret (v := tmV 5 false nilS noS 0 nilS nilS) (by simp [results, Tryz.results55, go_sem]) rfl ⟨rfl, (Below.refl _ w).alloc (Nat.le_refl _) _⟩
theorem bx2 (w : World) (a0 a1 a2 a3 a4 a5 a6 b0 b1 b2 b3 b4 b5 b6 : Value) (ta tb : TypeId) :
    Bx w.heap.size a0 a1 a2 a3 a4 a5 a6 ((w.alloc (.cells #[a0, a1, a2, a3, a4, a5, a6] ta)).alloc (.cells #[b0, b1, b2, b3, b4, b5, b6] tb)) ∧ Bx (w.heap.size + 1) b0 b1 b2 b3 b4 b5 b6 ((w.alloc (.cells #[a0, a1, a2, a3, a4, a5, a6] ta)).alloc (.cells #[b0, b1, b2, b3, b4, b5, b6] tb)) ∧ Below w.heap.size w ((w.alloc (.cells #[a0, a1, a2, a3, a4, a5, a6] ta)).alloc (.cells #[b0, b1, b2, b3, b4, b5, b6] tb)) ∧ ((w.alloc (.cells #[a0, a1, a2, a3, a4, a5, a6] ta)).alloc (.cells #[b0, b1, b2, b3, b4, b5, b6] tb)).heap.size = w.heap.size + 2 := by
  have h1 := Bx.new w a0 a1 a2 a3 a4 a5 a6 ta
  have h2 := Bx.new (w.alloc (.cells #[a0, a1, a2, a3, a4, a5, a6] ta)) b0 b1 b2 b3 b4 b5 b6 tb
  rw [World.size_alloc] at h2
  exact ⟨h1.below ((Below.refl _ _).alloc (Nat.le_refl _) _), h2, ((Below.refl _ w).alloc (Nat.le_refl _) _).alloc (by simp) _, by simp⟩
set_option maxHeartbeats 2000000 in
theorem pruned_w (k : Int) (neg : Bool) (od : Option Addr) (ld cd : Nat) (nm : ByteArray) (n : Int) (ol : Option Addr) (ll cl : Nat) (ob : Option Addr) (lb cb : Nat) (w : World) :
    Calls Tryz.prog 40 #[tmV k neg (.slice od ld cd) nm n (.slice ol ll cl) (.slice ob lb cb)] w fun e w' => e = .returned (prV k neg (.slice od ld cd) nm n (.slice ol ll cl) (.slice ob lb cb)) ∧ Below w.heap.size w w' := by
  by_cases h0 : k = 0
  · subst h0
    go_enter Tryz.func40, Tryz.ntmps40
    go_wp2
    exact bodyPost_ret (v := tmV 0 neg (.slice od ld cd) noS 0 nilS nilS) (by simp [results, Tryz.results40, go_sem]) rfl ⟨by simp [prV, *], ((Below.refl _ w).alloc (Nat.le_refl _) _).alloc (by simp) _⟩
  by_cases h1 : k = 1
  · subst h1
    go_enter Tryz.func40, Tryz.ntmps40
    go_wp2
    exact bodyPost_ret (v := tmV 1 false nilS nm 0 nilS nilS) (by simp [results, Tryz.results40, go_sem]) rfl ⟨by simp [prV, *], ((Below.refl _ w).alloc (Nat.le_refl _) _).alloc (by simp) _⟩
  by_cases h2 : k = 2
  · subst h2
    go_enter Tryz.func40, Tryz.ntmps40
    go_wp2
    exact bodyPost_ret (v := tmV 2 false nilS noS n nilS nilS) (by simp [results, Tryz.results40, go_sem]) rfl ⟨by simp [prV, *], ((Below.refl _ w).alloc (Nat.le_refl _) _).alloc (by simp) _⟩
  by_cases h3 : k = 3
  · subst h3
    go_enter Tryz.func40, Tryz.ntmps40
    go_wp2
    exact bodyPost_ret (v := tmV 3 false nilS noS n nilS nilS) (by simp [results, Tryz.results40, go_sem]) rfl ⟨by simp [prV, *], ((Below.refl _ w).alloc (Nat.le_refl _) _).alloc (by simp) _⟩
  by_cases h4 : k = 4
  · subst h4
    go_enter Tryz.func40, Tryz.ntmps40
    go_wp2
    exact bodyPost_ret (v := tmV 4 false nilS noS 0 (.slice ol ll cl) nilS) (by simp [results, Tryz.results40, go_sem]) rfl ⟨by simp [prV, *], ((Below.refl _ w).alloc (Nat.le_refl _) _).alloc (by simp) _⟩
  by_cases h6 : k = 6
  · subst h6
    go_enter Tryz.func40, Tryz.ntmps40
    go_wp2
    exact bodyPost_ret (v := tmV 6 false nilS noS 0 (.slice ol ll cl) nilS) (by simp [results, Tryz.results40, go_sem]) rfl ⟨by simp [prV, *], ((Below.refl _ w).alloc (Nat.le_refl _) _).alloc (by simp) _⟩
  by_cases h7 : k = 7
  · subst h7
    go_enter Tryz.func40, Tryz.ntmps40
    go_wp2
    exact bodyPost_ret (v := tmV 7 false nilS noS 0 nilS (.slice ob lb cb)) (by simp [results, Tryz.results40, go_sem]) rfl ⟨by simp [prV, *], ((Below.refl _ w).alloc (Nat.le_refl _) _).alloc (by simp) _⟩
  have e0 : (k == 0) = false := by simp [h0]
  have e1 : (k == 1) = false := by simp [h1]
  have e2 : (k == 2) = false := by simp [h2]
  have e3 : (k == 3) = false := by simp [h3]
  have e4 : (k == 4) = false := by simp [h4]
  have e6 : (k == 6) = false := by simp [h6]
  have e7 : (k == 7) = false := by simp [h7]
  go_enter Tryz.func40, Tryz.ntmps40
  obtain ⟨kA, kB, hB0, hz0⟩ := bx2 w (.int .i64 k) (.bool neg) (.slice od ld cd) (.string nm) (.int .i64 n) (.slice ol ll cl) (.slice ob lb cb) (.int .i64 0) (.bool false) nilS (.string noS) (.int .i64 0) nilS nilS 26 26
  go_wp2_with fail
  generalize ((w.alloc (.cells #[.int .i64 k, .bool neg, .slice od ld cd, .string nm, .int .i64 n, .slice ol ll cl, .slice ob lb cb] 26)).alloc (.cells #[.int .i64 0, .bool false, .slice none 0 0, .string { data := #[] }, .int .i64 0, .slice none 0 0, .slice none 0 0] 26)) = W0 at *
  refine (Nil_w _).mono ?_
  rintro e w1 ⟨rfl, b1⟩
  have kB1 := kB.below b1
  have hf := kB1.fr
  obtain ⟨r0, r1, r2, r3, r4, r5, r6, _⟩ := kB1.put (b0 := .int .i64 5) (b1 := .bool false) (b2 := nilS) (b3 := .string noS) (b4 := .int .i64 0) (b5 := nilS) (b6 := nilS)
  obtain ⟨f0, f1, f2, f3, f4, f5, f6, _⟩ := id kB1
  go_wp2
  exact bodyPost_ret (v := tmV 5 false nilS noS 0 nilS nilS) (by simp [results, Tryz.results40, go_sem, r0, r1, r2, r3, r4, r5, r6]) rfl ⟨by simp [prV, *], (only_put w1 (w.heap.size + 1) _ _ _ _ _ _ _).below (B := w.heap.size) (by omega) |> (below_and hB0 (Nat.le_refl _) b1).trans⟩
end Go.Proofs.YtjacoodfhkaioabGreatDoor
namespace Go.Proofs.YtjacoodfhkaioabGreatDoor
open Go.ChangeShapes Go.WideShapes Go.ChangeAt Go.RowKit
set_option linter.unusedSimpArgs false
set_option linter.unusedVariables false
set_option maxRecDepth 2000
inductive Tm where
  | mk (k : Int) (neg : Bool) (d : List Nat) (nm : ByteArray) (n : Int) (l : List Tm) (b : List Nat) : Tm
/-- all blocks that were there are as they were, but those of F -/
structure Kept (F : Nat → Prop) (w w' : World) : Prop where
  os : w'.os = w.os
  tape : w'.tape = w.tape
  output : w'.output = w.output
  size : w.heap.size ≤ w'.heap.size
  block : ∀ k, k < w.heap.size → ¬ F k → w'.heap[k]? = w.heap[k]?
theorem Kept.refl (F : Nat → Prop) (w : World) : Kept F w w := ⟨rfl, rfl, rfl, Nat.le_refl _, fun _ _ _ => rfl⟩
theorem Kept.trans {F : Nat → Prop} {a b c : World} (h : Kept F a b) (k : Kept F b c) : Kept F a c :=
  ⟨k.os.trans h.os, k.tape.trans h.tape, k.output.trans h.output, Nat.le_trans h.size k.size, fun i hi hn => (k.block i (Nat.lt_of_lt_of_le hi h.size) hn).trans (h.block i hi hn)⟩
/-- what is new may be turned too -/
theorem Kept.then {F G : Nat → Prop} {a b c : World} (h : Kept F a b) (k : Kept G b c) (hG : ∀ i, G i → F i ∨ a.heap.size ≤ i) : Kept F a c :=
  ⟨k.os.trans h.os, k.tape.trans h.tape, k.output.trans h.output, Nat.le_trans h.size k.size, fun i hi hn => (k.block i (Nat.lt_of_lt_of_le hi h.size) (fun g => (hG i g).elim hn (fun h => by omega))).trans (h.block i hi hn)⟩
theorem Kept.mono {F G : Nat → Prop} {w w' : World} (h : Kept F w w') (hF : ∀ k, F k → G k) : Kept G w w' := ⟨h.os, h.tape, h.output, h.size, fun k hk hn => h.block k hk (fun hf => hn (hF k hf))⟩
theorem Kept.of_below {F : Nat → Prop} {w w' : World} (h : Below w.heap.size w w') : Kept F w w' := ⟨h.os, h.tape, h.output, h.size, fun k hk _ => h.block k hk⟩
theorem Kept.of_grown {F : Nat → Prop} {w w' : World} {row : Option Nat} (h : w.grownBy w' row) (hr : ∀ k, row = some k → F k) : Kept F w w' :=
  ⟨h.os, h.tape, h.output, h.size, fun k hk hn => h.block k hk (fun e => hn (hr k e.symm))⟩
theorem Kept.of_alloc {F : Nat → Prop} (w : World) (o : Obj) : Kept F w (w.alloc o) := Kept.of_below ((Below.refl _ w).alloc (Nat.le_refl _) o)
theorem Kept.of_set {F : Nat → Prop} (w : World) {p : Addr} (hp : F p.block) (u : Value) : Kept F w (w.setCell p u) :=
  ⟨rfl, rfl, rfl, by simp, fun k _ hn => Below.heap_setCell w p u k (fun e => hn (e ▸ hp))⟩
theorem Kept.below {F : Nat → Prop} {B : Nat} {w w' : World} (h : Kept F w w') (hB : B ≤ w.heap.size) (hF : ∀ k, F k → B ≤ k) : Below B w w' :=
  ⟨h.os, h.tape, h.output, h.size, fun k hk => h.block k (by omega) (fun hf => by have := hF k hf; omega)⟩
/-- cells in a row, in blocks of Z -/
def Ls (Z : Nat → Prop) (o : Option Addr) (vs : List Value) (w : World) : Prop := ∀ (j : Nat) (u : Value), vs[j]? = some u → ∃ a, o = some a ∧ Z a.block ∧ w.cell? (a.add j) = some u
theorem block_add (a : Addr) (n : Nat) : (a.add n).block = a.block := by unfold Addr.add; split <;> rfl
theorem add_add (a : Addr) (m n : Nat) : (a.add m).add n = a.add (m + n) := by
  unfold Addr.add
  by_cases h : m = 0
  · subst h; simp
  · by_cases h2 : n = 0
    · subst h2; simp [h]
    · simp [h, h2, Nat.add_assoc]
theorem add_zero (a : Addr) : a.add 0 = a := by simp [Addr.add]
/-- the blocks of Z are as they were -/
def Zs (Z : Nat → Prop) (w w' : World) : Prop := ∀ k, Z k → w'.heap[k]? = w.heap[k]?
theorem Zs.cell {Z : Nat → Prop} {w w' : World} (h : Zs Z w w') {a : Addr} (hz : Z a.block) (n : Nat) : w'.cell? (a.add n) = w.cell? (a.add n) := World.cell?_of_block (a := a.add n) (by rw [block_add]; exact h _ hz)
theorem Ls.zs {Z : Nat → Prop} {o : Option Addr} {vs : List Value} {w w' : World} (h : Ls Z o vs w) (hb : Zs Z w w') : Ls Z o vs w' := fun j u hu => by
  obtain ⟨a, ha, hB, hc⟩ := h j u hu
  exact ⟨a, ha, hB, (hb.cell hB j).trans hc⟩
theorem Ls.mono {Z Z' : Nat → Prop} {o : Option Addr} {vs : List Value} {w : World} (h : Ls Z o vs w) (hB : ∀ k, k < w.heap.size → Z k → Z' k) : Ls Z' o vs w := fun j u hu => by
  obtain ⟨a, ha, hb, hc⟩ := h j u hu
  exact ⟨a, ha, hB _ (by have := World.block_lt_of_cell? _ _ hc; rwa [block_add] at this) hb, hc⟩
theorem Ls.nil (Z : Nat → Prop) (o : Option Addr) (w : World) : Ls Z o [] w := fun j u hu => by simp at hu
abbrev lim (d : List Nat) : List Value := d.map fun (x : Nat) => Value.int .u32 (x : Int)
abbrev bts (b : List Nat) : List Value := b.map fun (x : Nat) => Value.int .u8 (x : Int)
theorem Ls.lies {Z : Nat → Prop} {o : Option Addr} {d : List Nat} {w : World} (h : Ls Z o (lim d) w) : Lies o d w := fun j x hx => by
  obtain ⟨a, ha, _, hc⟩ := h j (.int .u32 (x : Int)) (by simp [lim, hx])
  exact ⟨a, ha, hc⟩
/-- bytes in a row -/
def LsB (Z : Nat → Prop) (o : Option Addr) (b : List Nat) (w : World) : Prop := Ls Z o (bts b) w ∧ Lm 256 b
theorem LsB.zs {Z : Nat → Prop} {o : Option Addr} {b : List Nat} {w w' : World} (h : LsB Z o b w) (hb : Zs Z w w') : LsB Z o b w' := ⟨h.1.zs hb, h.2⟩
theorem LsB.mono {Z Z' : Nat → Prop} {o : Option Addr} {b : List Nat} {w : World} (h : LsB Z o b w) (hB : ∀ k, k < w.heap.size → Z k → Z' k) : LsB Z' o b w := ⟨h.1.mono hB, h.2⟩
theorem LsB.nil (Z : Nat → Prop) (o : Option Addr) (w : World) : LsB Z o [] w := ⟨Ls.nil _ _ _, Lm.nil _⟩
/-- a term's cells at an address -/
def At7 (a : Addr) (v : Value) (w : World) : Prop := ∃ a0 a1 a2 a3 a4 a5 a6, v = .agg #[a0, a1, a2, a3, a4, a5, a6] ∧ w.cell? a = some a0 ∧ w.cell? (a.add 1) = some a1 ∧ w.cell? (a.add 2) = some a2 ∧ w.cell? (a.add 3) = some a3 ∧ w.cell? (a.add 4) = some a4 ∧ w.cell? (a.add 5) = some a5 ∧ w.cell? (a.add 6) = some a6
theorem At7.lt {a : Addr} {v : Value} {w : World} (h : At7 a v w) : a.block < w.heap.size := by
  obtain ⟨a0, a1, a2, a3, a4, a5, a6, rfl, h0, _⟩ := h
  exact World.block_lt_of_cell? _ _ h0
theorem At7.zs {Z : Nat → Prop} {a : Addr} {v : Value} {w w' : World} (h : At7 a v w) (hB : Z a.block) (hb : Zs Z w w') : At7 a v w' := by
  obtain ⟨a0, a1, a2, a3, a4, a5, a6, rfl, h0, h1, h2, h3, h4, h5, h6⟩ := h
  have q : ∀ n, w'.cell? (a.add n) = w.cell? (a.add n) := fun n => hb.cell hB n
  have q0 := q 0
  rw [add_zero] at q0
  exact ⟨a0, a1, a2, a3, a4, a5, a6, rfl, q0.trans h0, (q 1).trans h1, (q 2).trans h2, (q 3).trans h3, (q 4).trans h4, (q 5).trans h5, (q 6).trans h6⟩
mutual
def TV (Z : Nat → Prop) (w : World) : Tm → Value → Prop
  | .mk k neg d nm n l b, v => ∃ od cd ol cl ob cb, v = tmV k neg (.slice od d.length cd) nm n (.slice ol l.length cl) (.slice ob b.length cb) ∧ Ls Z od (lim d) w ∧ d.length ≤ cd ∧ Lm 4294967296 d ∧ LsB Z ob b w ∧ b.length ≤ cb ∧ l.length ≤ cl ∧ TR Z w l ol
def TR (Z : Nat → Prop) (w : World) : List Tm → Option Addr → Prop
  | [], _ => True
  | t :: l, o => ∃ a v, o = some a ∧ Z a.block ∧ At7 a v w ∧ TV Z w t v ∧ TR Z w l (some (a.add 7))
end
mutual
theorem TV.zs {Z : Nat → Prop} {w w' : World} (hb : Zs Z w w') : ∀ (t : Tm) (v : Value), TV Z w t v → TV Z w' t v
  | .mk k neg d nm n l b, v, h => by
    unfold TV at h ⊢
    obtain ⟨od, cd, ol, cl, ob, cb, hv, h1, h2, h3, h4, h5, h6, h7⟩ := h
    exact ⟨od, cd, ol, cl, ob, cb, hv, h1.zs hb, h2, h3, h4.zs hb, h5, h6, TR.zs hb l ol h7⟩
theorem TR.zs {Z : Nat → Prop} {w w' : World} (hb : Zs Z w w') : ∀ (l : List Tm) (o : Option Addr), TR Z w l o → TR Z w' l o
  | [], _, _ => by unfold TR; trivial
  | t :: l, o, h => by
    unfold TR at h ⊢
    obtain ⟨a, v, ho, hB, h1, h2, h3⟩ := h
    exact ⟨a, v, ho, hB, h1.zs hB hb, TV.zs hb t v h2, TR.zs hb l _ h3⟩
end
mutual
theorem TV.mono {Z Z' : Nat → Prop} {w : World} (hb : ∀ k, k < w.heap.size → Z k → Z' k) : ∀ (t : Tm) (v : Value), TV Z w t v → TV Z' w t v
  | .mk k neg d nm n l b, v, h => by
    unfold TV at h ⊢
    obtain ⟨od, cd, ol, cl, ob, cb, hv, h1, h2, h3, h4, h5, h6, h7⟩ := h
    exact ⟨od, cd, ol, cl, ob, cb, hv, h1.mono hb, h2, h3, h4.mono hb, h5, h6, TR.mono hb l ol h7⟩
theorem TR.mono {Z Z' : Nat → Prop} {w : World} (hb : ∀ k, k < w.heap.size → Z k → Z' k) : ∀ (l : List Tm) (o : Option Addr), TR Z w l o → TR Z' w l o
  | [], _, _ => by unfold TR; trivial
  | t :: l, o, h => by
    unfold TR at h ⊢
    obtain ⟨a, v, ho, hB, h1, h2, h3⟩ := h
    exact ⟨a, v, ho, hb _ h1.lt hB, h1, TV.mono hb t v h2, TR.mono hb l _ h3⟩
end
def Tm.kind : Tm → Int | .mk k _ _ _ _ _ _ => k
def Tm.kids : Tm → List Tm | .mk k _ _ _ _ l _ => if k = 4 ∨ k = 6 then l else []
mutual
/-- a term and its parts, those ahead first -/
def parts : Tm → List Tm
  | .mk k neg d nm n l b => .mk k neg d nm n l b :: (if k = 4 ∨ k = 6 then partsL l else [])
def partsL : List Tm → List Tm
  | [] => []
  | t :: l => parts t ++ partsL l
end
mutual
def dep : Tm → Nat
  | .mk k _ _ _ _ l _ => if k = 4 ∨ k = 6 then depL l + 1 else 0
def depL : List Tm → Nat
  | [] => 0
  | t :: l => max (dep t) (depL l)
end
theorem parts_eq (t : Tm) : parts t = t :: partsL t.kids := by
  cases t with | mk k neg d nm n l b =>
  unfold parts Tm.kids
  split <;> simp [partsL, *]
theorem dep_kids (t : Tm) (h : t.kids ≠ []) : depL t.kids + 1 = dep t := by
  cases t with | mk k neg d nm n l b =>
  unfold dep
  unfold Tm.kids at h ⊢
  by_cases hk : k = 4 ∨ k = 6
  · simp [hk]
  · simp [hk] at h
theorem TR.at {Z : Nat → Prop} {w : World} : ∀ (l : List Tm) (a : Addr) (i : Nat) (t : Tm), TR Z w l (some a) → l[i]? = some t → ∃ v, Z a.block ∧ At7 (a.add (7 * i)) v w ∧ TV Z w t v
  | [], _, _, _, _, hi => by simp at hi
  | t :: l, a, 0, t', h, hi => by
    simp at hi; subst hi
    unfold TR at h
    obtain ⟨a', v, ho, hB, h1, h2, h3⟩ := h
    injection ho with ho; subst ho
    exact ⟨v, hB, by simpa [add_zero] using h1, h2⟩
  | t :: l, a, i + 1, t', h, hi => by
    unfold TR at h
    obtain ⟨a', v, ho, hB, h1, h2, h3⟩ := h
    injection ho with ho; subst ho
    simp at hi
    obtain ⟨v', hB', h4, h5⟩ := TR.at l _ i t' h3 hi
    refine ⟨v', hB, ?_, h5⟩
    rw [add_add] at h4
    rw [show 7 * (i + 1) = 7 + 7 * i by omega]; exact h4
end Go.Proofs.YtjacoodfhkaioabGreatDoor
namespace Go.Proofs
open Go.Shelf
def Tryz.lays119_ren : Go.Shelf.Ren := ⟨fun | 119 => 130 | n => n, fun | 21 => 21 | 4 => 4 | n => n, fun | n => n⟩
theorem Tryz.lays119 : Go.Proofs.Lays.n119 Tryz.prog Tryz.lays119_ren := {
  mixed := by kernel_rfl
  f119 := Tryz.func130.trans (congrArg some (by kernel_rfl))
  t4 := Tryz.underlying4
  a4 := Tryz.isAgg4
  z4 := Tryz.sizeOf4
  v4 := Tryz.zeroValue4
  t21 := Tryz.underlying21
  a21 := Tryz.isAgg21
  z21 := Tryz.sizeOf21
  v21 := Tryz.zeroValue21 }
def Tryz.lays242_ren : Go.Shelf.Ren := ⟨fun | 242 => 43 | 278 => 68 | n => n, fun | 37 => 24 | 21 => 21 | 51 => 104 | 4 => 4 | 5 => 5 | 46 => 94 | n => n, fun | n => n⟩
theorem Tryz.lays242 : Go.Proofs.Lays.n242 Tryz.prog Tryz.lays242_ren := {
  mixed := by kernel_rfl
  f242 := Tryz.func43.trans (congrArg some (by kernel_rfl))
  f278 := Tryz.func68.trans (congrArg some (by kernel_rfl))
  t4 := Tryz.underlying4
  a4 := Tryz.isAgg4
  z4 := Tryz.sizeOf4
  v4 := Tryz.zeroValue4
  t5 := Tryz.underlying5
  a5 := Tryz.isAgg5
  z5 := Tryz.sizeOf5
  v5 := Tryz.zeroValue5
  t21 := Tryz.underlying21
  a21 := Tryz.isAgg21
  z21 := Tryz.sizeOf21
  v21 := Tryz.zeroValue21
  t37 := Tryz.underlying24
  a37 := Tryz.isAgg24
  z37 := Tryz.sizeOf24
  v37 := Tryz.zeroValue24
  t46 := Tryz.underlying94
  a46 := Tryz.isAgg94
  z46 := Tryz.sizeOf94
  v46 := Tryz.zeroValue94
  t51 := Tryz.underlying104
  a51 := Tryz.isAgg104
  z51 := Tryz.sizeOf104
  v51 := Tryz.zeroValue104 }
def Tryz.lays99_ren : Go.Shelf.Ren := ⟨fun | 99 => 107 | 206 => 116 | n => n, fun | 9 => 9 | 4 => 4 | 3 => 3 | n => n, fun | n => n⟩
theorem Tryz.lays99 : Go.Proofs.Lays.n99 Tryz.prog Tryz.lays99_ren := {
  mixed := by kernel_rfl
  f99 := Tryz.func107.trans (congrArg some (by kernel_rfl))
  f206 := Tryz.func116.trans (congrArg some (by kernel_rfl))
  t3 := Tryz.underlying3
  a3 := Tryz.isAgg3
  z3 := Tryz.sizeOf3
  v3 := Tryz.zeroValue3
  t4 := Tryz.underlying4
  a4 := Tryz.isAgg4
  z4 := Tryz.sizeOf4
  v4 := Tryz.zeroValue4
  t9 := Tryz.underlying9
  a9 := Tryz.isAgg9
  z9 := Tryz.sizeOf9
  v9 := Tryz.zeroValue9 }
def Tryz.lays197_ren : Go.Shelf.Ren := ⟨fun | 197 => 79 | 260 => 101 | n => n, fun | 9 => 9 | 21 => 21 | 3 => 3 | 4 => 4 | 5 => 5 | 105 => 117 | 119 => 90 | 0 => 0 | 46 => 94 | 139 => 93 | 138 => 92 | n => n, fun | 3 => 0 | 4 => 1 | n => n⟩
theorem Tryz.lays197 : Go.Proofs.Lays.n197 Tryz.prog Tryz.lays197_ren := {
  mixed := by kernel_rfl
  f197 := Tryz.func79.trans (congrArg some (by kernel_rfl))
  f260 := Tryz.func101.trans (congrArg some (by kernel_rfl))
  t0 := Tryz.underlying0
  a0 := Tryz.isAgg0
  z0 := Tryz.sizeOf0
  v0 := Tryz.zeroValue0
  t3 := Tryz.underlying3
  a3 := Tryz.isAgg3
  z3 := Tryz.sizeOf3
  v3 := Tryz.zeroValue3
  t4 := Tryz.underlying4
  a4 := Tryz.isAgg4
  z4 := Tryz.sizeOf4
  v4 := Tryz.zeroValue4
  t5 := Tryz.underlying5
  a5 := Tryz.isAgg5
  z5 := Tryz.sizeOf5
  v5 := Tryz.zeroValue5
  t9 := Tryz.underlying9
  a9 := Tryz.isAgg9
  z9 := Tryz.sizeOf9
  v9 := Tryz.zeroValue9
  t21 := Tryz.underlying21
  a21 := Tryz.isAgg21
  z21 := Tryz.sizeOf21
  v21 := Tryz.zeroValue21
  t46 := Tryz.underlying94
  a46 := Tryz.isAgg94
  z46 := Tryz.sizeOf94
  v46 := Tryz.zeroValue94
  t105 := Tryz.underlying117
  a105 := Tryz.isAgg117
  z105 := Tryz.sizeOf117
  v105 := Tryz.zeroValue117
  t119 := Tryz.underlying90
  a119 := Tryz.isAgg90
  z119 := Tryz.sizeOf90
  t138 := Tryz.underlying92
  a138 := Tryz.isAgg92
  z138 := Tryz.sizeOf92
  v138 := Tryz.zeroValue92
  t139 := Tryz.underlying93
  a139 := Tryz.isAgg93
  z139 := Tryz.sizeOf93
  v139 := Tryz.zeroValue93
  g3 := by kernel_rfl
  g4 := by kernel_rfl }
def Tryz.lays196_ren : Go.Shelf.Ren := ⟨fun | 196 => 28 | 259 => 52 | n => n, fun | 9 => 9 | 4 => 4 | 3 => 3 | 5 => 5 | 12 => 12 | 119 => 90 | 0 => 0 | 46 => 94 | 139 => 93 | 138 => 92 | 53 => 116 | n => n, fun | 3 => 0 | 4 => 1 | n => n⟩
theorem Tryz.lays196 : Go.Proofs.Lays.n196 Tryz.prog Tryz.lays196_ren := {
  mixed := by kernel_rfl
  f196 := Tryz.func28.trans (congrArg some (by kernel_rfl))
  f259 := Tryz.func52.trans (congrArg some (by kernel_rfl))
  t0 := Tryz.underlying0
  a0 := Tryz.isAgg0
  z0 := Tryz.sizeOf0
  v0 := Tryz.zeroValue0
  t3 := Tryz.underlying3
  a3 := Tryz.isAgg3
  z3 := Tryz.sizeOf3
  v3 := Tryz.zeroValue3
  t4 := Tryz.underlying4
  a4 := Tryz.isAgg4
  z4 := Tryz.sizeOf4
  v4 := Tryz.zeroValue4
  t5 := Tryz.underlying5
  a5 := Tryz.isAgg5
  z5 := Tryz.sizeOf5
  v5 := Tryz.zeroValue5
  t9 := Tryz.underlying9
  a9 := Tryz.isAgg9
  z9 := Tryz.sizeOf9
  v9 := Tryz.zeroValue9
  t12 := Tryz.underlying12
  a12 := Tryz.isAgg12
  z12 := Tryz.sizeOf12
  v12 := Tryz.zeroValue12
  t46 := Tryz.underlying94
  a46 := Tryz.isAgg94
  z46 := Tryz.sizeOf94
  v46 := Tryz.zeroValue94
  t53 := Tryz.underlying116
  a53 := Tryz.isAgg116
  z53 := Tryz.sizeOf116
  v53 := Tryz.zeroValue116
  t119 := Tryz.underlying90
  a119 := Tryz.isAgg90
  z119 := Tryz.sizeOf90
  t138 := Tryz.underlying92
  a138 := Tryz.isAgg92
  z138 := Tryz.sizeOf92
  v138 := Tryz.zeroValue92
  t139 := Tryz.underlying93
  a139 := Tryz.isAgg93
  z139 := Tryz.sizeOf93
  v139 := Tryz.zeroValue93
  g3 := by kernel_rfl
  g4 := by kernel_rfl }
def Tryz.lays7_27_ren : Go.Shelf.Ren := ⟨fun | 27 => 129 | 28 => 132 | 29 => 133 | n => n, fun | 25 => 94 | 3 => 3 | 27 => 104 | 22 => 116 | 4 => 4 | 53 => 166 | 0 => 0 | 5 => 5 | 54 => 167 | n => n, fun | 0 => 3 | 1 => 4 | n => n⟩
theorem Tryz.lays7_27 : Go.Proofs.Lays7.n27 Tryz.prog Tryz.lays7_27_ren := {
  mixed := by kernel_rfl
  f27 := Tryz.func129.trans (congrArg some (by kernel_rfl))
  f28 := Tryz.func132.trans (congrArg some (by kernel_rfl))
  f29 := Tryz.func133.trans (congrArg some (by kernel_rfl))
  t0 := Tryz.underlying0
  a0 := Tryz.isAgg0
  z0 := Tryz.sizeOf0
  v0 := Tryz.zeroValue0
  i0 := by kernel_rfl
  t3 := Tryz.underlying3
  a3 := Tryz.isAgg3
  z3 := Tryz.sizeOf3
  v3 := Tryz.zeroValue3
  i3 := by kernel_rfl
  t4 := Tryz.underlying4
  a4 := Tryz.isAgg4
  z4 := Tryz.sizeOf4
  v4 := Tryz.zeroValue4
  i4 := by kernel_rfl
  t5 := Tryz.underlying5
  a5 := Tryz.isAgg5
  z5 := Tryz.sizeOf5
  v5 := Tryz.zeroValue5
  i5 := by kernel_rfl
  t22 := Tryz.underlying116
  a22 := Tryz.isAgg116
  z22 := Tryz.sizeOf116
  v22 := Tryz.zeroValue116
  i22 := by kernel_rfl
  t25 := Tryz.underlying94
  a25 := Tryz.isAgg94
  z25 := Tryz.sizeOf94
  v25 := Tryz.zeroValue94
  i25 := by kernel_rfl
  t27 := Tryz.underlying104
  a27 := Tryz.isAgg104
  z27 := Tryz.sizeOf104
  v27 := Tryz.zeroValue104
  i27 := by kernel_rfl
  t53 := Tryz.underlying166
  a53 := Tryz.isAgg166
  z53 := Tryz.sizeOf166
  v53 := Tryz.zeroValue166
  i53 := by kernel_rfl
  t54 := Tryz.underlying167
  a54 := Tryz.isAgg167
  z54 := Tryz.sizeOf167
  g0 := by kernel_rfl
  g1 := by kernel_rfl }
def Tryz.laysM176_ren : Go.Shelf.Ren := ⟨fun | 176 => 78 | 249 => 100 | 288 => 113 | 283 => 118 | 284 => 119 | 285 => 120 | 286 => 121 | 129 => 126 | 317 => 125 | 318 => 127 | 319 => 128 | 320 => 129 | 337 => 132 | 338 => 133 | n => n, fun | 37 => 24 | 2 => 2 | 3 => 3 | 53 => 116 | 4 => 4 | 9 => 9 | 171 => 151 | 0 => 0 | 173 => 154 | 212 => 159 | 51 => 104 | 5 => 5 | 20 => 20 | 213 => 160 | 46 => 94 | 232 => 166 | 233 => 167 | n => n, fun | 17 => 2 | 18 => 3 | 19 => 4 | n => n⟩
theorem Tryz.laysM176 : Go.Proofs.LaysM.n176 Tryz.prog Tryz.laysM176_ren := {
  mixed := by kernel_rfl
  f129 := Tryz.func126.trans (congrArg some (by kernel_rfl))
  f176 := Tryz.func78.trans (congrArg some (by kernel_rfl))
  f249 := Tryz.func100.trans (congrArg some (by kernel_rfl))
  f283 := Tryz.func118.trans (congrArg some (by kernel_rfl))
  f284 := Tryz.func119.trans (congrArg some (by kernel_rfl))
  f285 := Tryz.func120.trans (congrArg some (by kernel_rfl))
  f286 := Tryz.func121.trans (congrArg some (by kernel_rfl))
  f288 := Tryz.func113.trans (congrArg some (by kernel_rfl))
  f317 := Tryz.func125.trans (congrArg some (by kernel_rfl))
  f318 := Tryz.func127.trans (congrArg some (by kernel_rfl))
  f319 := Tryz.func128.trans (congrArg some (by kernel_rfl))
  f320 := Tryz.func129.trans (congrArg some (by kernel_rfl))
  f337 := Tryz.func132.trans (congrArg some (by kernel_rfl))
  f338 := Tryz.func133.trans (congrArg some (by kernel_rfl))
  t0 := Tryz.underlying0
  a0 := Tryz.isAgg0
  z0 := Tryz.sizeOf0
  v0 := Tryz.zeroValue0
  t2 := Tryz.underlying2
  a2 := Tryz.isAgg2
  z2 := Tryz.sizeOf2
  v2 := Tryz.zeroValue2
  t3 := Tryz.underlying3
  a3 := Tryz.isAgg3
  z3 := Tryz.sizeOf3
  v3 := Tryz.zeroValue3
  t4 := Tryz.underlying4
  a4 := Tryz.isAgg4
  z4 := Tryz.sizeOf4
  v4 := Tryz.zeroValue4
  t5 := Tryz.underlying5
  a5 := Tryz.isAgg5
  z5 := Tryz.sizeOf5
  v5 := Tryz.zeroValue5
  t9 := Tryz.underlying9
  a9 := Tryz.isAgg9
  z9 := Tryz.sizeOf9
  v9 := Tryz.zeroValue9
  t20 := Tryz.underlying20
  a20 := Tryz.isAgg20
  z20 := Tryz.sizeOf20
  v20 := Tryz.zeroValue20
  t37 := Tryz.underlying24
  a37 := Tryz.isAgg24
  z37 := Tryz.sizeOf24
  v37 := Tryz.zeroValue24
  t46 := Tryz.underlying94
  a46 := Tryz.isAgg94
  z46 := Tryz.sizeOf94
  v46 := Tryz.zeroValue94
  t51 := Tryz.underlying104
  a51 := Tryz.isAgg104
  z51 := Tryz.sizeOf104
  v51 := Tryz.zeroValue104
  t53 := Tryz.underlying116
  a53 := Tryz.isAgg116
  z53 := Tryz.sizeOf116
  v53 := Tryz.zeroValue116
  t171 := Tryz.underlying151
  a171 := Tryz.isAgg151
  z171 := Tryz.sizeOf151
  v171 := Tryz.zeroValue151
  t173 := Tryz.underlying154
  a173 := Tryz.isAgg154
  z173 := Tryz.sizeOf154
  v173 := Tryz.zeroValue154
  t212 := Tryz.underlying159
  a212 := Tryz.isAgg159
  z212 := Tryz.sizeOf159
  v212 := Tryz.zeroValue159
  t213 := Tryz.underlying160
  a213 := Tryz.isAgg160
  z213 := Tryz.sizeOf160
  t232 := Tryz.underlying166
  a232 := Tryz.isAgg166
  z232 := Tryz.sizeOf166
  v232 := Tryz.zeroValue166
  t233 := Tryz.underlying167
  a233 := Tryz.isAgg167
  z233 := Tryz.sizeOf167
  v233 := Tryz.zeroValue167
  g17 := by kernel_rfl
  g18 := by kernel_rfl
  g19 := by kernel_rfl
  i0 := by kernel_rfl
  i2 := by kernel_rfl
  i3 := by kernel_rfl
  i4 := by kernel_rfl
  i5 := by kernel_rfl
  i9 := by kernel_rfl
  i20 := by kernel_rfl
  i37 := by kernel_rfl
  i46 := by kernel_rfl
  i51 := by kernel_rfl
  i53 := by kernel_rfl
  i171 := by kernel_rfl
  i173 := by kernel_rfl
  i212 := by kernel_rfl
  i232 := by kernel_rfl
  i233 := by kernel_rfl
  m17 := by kernel_rfl
  m18 := by kernel_rfl
  m19 := by kernel_rfl }
def Tryz.lays103_ren : Go.Shelf.Ren := ⟨fun | 103 => 104 | 210 => 115 | 206 => 116 | n => n, fun | 9 => 9 | 4 => 4 | 24 => 139 | 3 => 3 | n => n, fun | n => n⟩
theorem Tryz.lays103 : Go.Proofs.Lays.n103 Tryz.prog Tryz.lays103_ren := {
  mixed := by kernel_rfl
  f103 := Tryz.func104.trans (congrArg some (by kernel_rfl))
  f206 := Tryz.func116.trans (congrArg some (by kernel_rfl))
  f210 := Tryz.func115.trans (congrArg some (by kernel_rfl))
  t3 := Tryz.underlying3
  a3 := Tryz.isAgg3
  z3 := Tryz.sizeOf3
  v3 := Tryz.zeroValue3
  t4 := Tryz.underlying4
  a4 := Tryz.isAgg4
  z4 := Tryz.sizeOf4
  v4 := Tryz.zeroValue4
  t9 := Tryz.underlying9
  a9 := Tryz.isAgg9
  z9 := Tryz.sizeOf9
  v9 := Tryz.zeroValue9
  t24 := Tryz.underlying139
  a24 := Tryz.isAgg139
  z24 := Tryz.sizeOf139
  v24 := Tryz.zeroValue139 }
def Tryz.laysM316_ren : Go.Shelf.Ren := ⟨fun | 316 => 94 | n => n, fun | 9 => 9 | 3 => 3 | 4 => 4 | 37 => 24 | 0 => 0 | 127 => 135 | 5 => 5 | n => n, fun | n => n⟩
theorem Tryz.laysM316 : Go.Proofs.LaysM.n316 Tryz.prog Tryz.laysM316_ren := {
  mixed := by kernel_rfl
  f316 := Tryz.func94.trans (congrArg some (by kernel_rfl))
  t0 := Tryz.underlying0
  a0 := Tryz.isAgg0
  z0 := Tryz.sizeOf0
  v0 := Tryz.zeroValue0
  t3 := Tryz.underlying3
  a3 := Tryz.isAgg3
  z3 := Tryz.sizeOf3
  v3 := Tryz.zeroValue3
  t4 := Tryz.underlying4
  a4 := Tryz.isAgg4
  z4 := Tryz.sizeOf4
  v4 := Tryz.zeroValue4
  t9 := Tryz.underlying9
  a9 := Tryz.isAgg9
  z9 := Tryz.sizeOf9
  v9 := Tryz.zeroValue9
  t37 := Tryz.underlying24
  a37 := Tryz.isAgg24
  z37 := Tryz.sizeOf24
  v37 := Tryz.zeroValue24
  t127 := Tryz.underlying135
  a127 := Tryz.isAgg135
  z127 := Tryz.sizeOf135
  v127 := Tryz.zeroValue135
  t5 := Tryz.underlying5
  a5 := Tryz.isAgg5
  z5 := Tryz.sizeOf5
  v5 := Tryz.zeroValue5
  i0 := by kernel_rfl
  i3 := by kernel_rfl
  i4 := by kernel_rfl
  i5 := by kernel_rfl
  i9 := by kernel_rfl
  i37 := by kernel_rfl
  i127 := by kernel_rfl }
end Go.Proofs
namespace Go.Proofs.YtjacoodfhkaioabGreatDoor
open Go.Lib
set_option linter.unusedSimpArgs false
set_option linter.unusedVariables false
set_option maxRecDepth 2000

/-! ### signs of bytes, bytes of signs -/
def sgGo : Nat → List UInt8 → List Nat
  | 0, _ => []
  | n + 1, l => if l = [] then [] else (decodeL l).1 :: sgGo n (l.drop (decodeL l).2)
def sg (l : List UInt8) : List Nat := sgGo l.length l
def okR (r : Nat) : Prop := r < 55296 ∨ (57344 ≤ r ∧ r ≤ 1114111)
def okRs (rs : List Nat) : Prop := ∀ r ∈ rs, okR r
def e1 (r : Nat) : List UInt8 := encodeRune (r : Int)
def en : List Nat → List UInt8
  | [] => []
  | r :: t => e1 r ++ en t

theorem sgGo_nil : ∀ n, sgGo n [] = []
  | 0 => rfl
  | _ + 1 => by simp [sgGo]
theorem sgGo_fuel : ∀ (n m : Nat) (l : List UInt8), l.length ≤ n → l.length ≤ m → sgGo n l = sgGo m l
  | 0, m, l, hn, _ => by
    have : l = [] := List.eq_nil_of_length_eq_zero (by omega)
    subst this; rw [sgGo_nil, sgGo_nil]
  | n + 1, 0, l, _, hm => by
    have : l = [] := List.eq_nil_of_length_eq_zero (by omega)
    subst this; rw [sgGo_nil, sgGo_nil]
  | n + 1, m + 1, l, hn, hm => by
    unfold sgGo
    by_cases hne : l = []
    · simp [hne]
    · have hw := decodeL_width l
      have hl : 0 < l.length := List.length_pos_iff.2 hne
      rw [if_neg hne, if_neg hne, sgGo_fuel n m (l.drop (decodeL l).2) (by rw [List.length_drop]; omega) (by rw [List.length_drop]; omega)]
theorem sg_nil : sg [] = [] := rfl
theorem sg_step (l : List UInt8) (hne : l ≠ []) : sg l = (decodeL l).1 :: sg (l.drop (decodeL l).2) := by
  have hl : 0 < l.length := List.length_pos_iff.2 hne
  have hw := decodeL_width l
  obtain ⟨n, hn⟩ : ∃ n, l.length = n + 1 := ⟨l.length - 1, by omega⟩
  unfold sg
  rw [hn]
  show (if l = [] then [] else _) = _
  rw [if_neg hne, sgGo_fuel n (l.drop (decodeL l).2).length _ (by rw [List.length_drop]; omega) (Nat.le_refl _)]
/-- The step of a range over a string. -/
theorem sg_at (s : ByteArray) (pos : Nat) (h : pos < s.size) : sg (s.data.toList.drop pos) = (Utf8.decode s pos).1 :: sg (s.data.toList.drop (pos + (Utf8.decode s pos).2)) := by
  have hs : s.data.toList.length = s.size := rfl
  rw [sg_step _ (by intro e; have := congrArg List.length e; simp [List.length_drop] at this; omega), decodeL_drop, List.drop_drop]
theorem sg_end (s : ByteArray) (pos : Nat) (h : ¬ pos < s.size) : sg (s.data.toList.drop pos) = [] := by
  have hs : s.data.toList.length = s.size := rfl
  rw [List.drop_eq_nil_of_le (by omega)]; rfl
theorem sg_le : ∀ l : List UInt8, (sg l).length ≤ l.length := by
  have h : ∀ (n : Nat) (l : List UInt8), (sgGo n l).length ≤ n := by
    intro n
    induction n with
    | zero => intro l; simp [sgGo]
    | succ n ih =>
      intro l; unfold sgGo; split
      · simp
      · have := ih (l.drop (decodeL l).2); simp; omega
  exact fun l => h _ l

theorem okR_decode (l : List UInt8) (hne : l ≠ []) : okR (decodeL l).1 := by
  have k0 := (l.getD 0 0).toNat_lt
  rw [decodeL_N]
  unfold okR
  rcases decodeN_shape l.length (l.getD 0 0).toNat (l.getD 1 0).toNat (l.getD 2 0).toNat (l.getD 3 0).toNat with ⟨c, e⟩ | ⟨c1, c2, c3, cv, e⟩ | ⟨c1, c2, c3, c4, cv, cs, e⟩ | ⟨c1, c2, c3, c4, c5, cv, cw, e⟩ | e
  all_goals (rw [e]; dsimp only; omega)
theorem okRs_sg (l : List UInt8) : okRs (sg l) := by
  have h : ∀ (n : Nat) (l : List UInt8), okRs (sgGo n l) := by
    intro n
    induction n with
    | zero => intro l r hr; simp [sgGo] at hr
    | succ n ih =>
      intro l r hr
      unfold sgGo at hr
      split at hr
      · simp at hr
      · rename_i hne
        rcases List.mem_cons.1 hr with rfl | hr
        · exact okR_decode l hne
        · exact ih _ r hr
  exact h _ l
theorem en_sg : ∀ (n : Nat) (l : List UInt8), l.length ≤ n → validD l = true → en (sg l) = l := by
  intro n
  induction n with
  | zero =>
    intro l hl _
    have : l = [] := List.eq_nil_of_length_eq_zero (by omega)
    subst this; rfl
  | succ n ih =>
    intro l hl hv
    by_cases hne : l = []
    · subst hne; rfl
    · have hw := decodeL_width l
      have hp : 0 < l.length := List.length_pos_iff.2 hne
      rw [validD_step l hne] at hv
      split at hv
      · cases hv
      · rename_i hb
        rw [sg_step l hne]
        show e1 _ ++ en _ = l
        rw [ih (l.drop (decodeL l).2) (by rw [List.length_drop]; omega) hv]
        unfold e1
        rw [encode_decode l hne hb]
        exact List.take_append_drop _ _
theorem en_of_valid {l : List UInt8} (h : validD l = true) : en (sg l) = l := en_sg _ l (Nat.le_refl _) h

theorem e1_length (r : Nat) : 1 ≤ (e1 r).length ∧ (e1 r).length ≤ 4 := by
  have := runeCells_le (r : Int)
  rw [runeCells_length] at this
  exact this
theorem e1_ascii (r : Nat) (h : r < 128) : e1 r = [r.toUInt8] := by
  unfold e1 encodeRune
  rw [encodeRuneZ_one (by omega) (by omega)]
  simp
theorem e1_ne (r : Nat) : e1 r ≠ [] := by
  intro e; have := (e1_length r).1; rw [e] at this; simp at this

theorem toU (n : Nat) (h : n < 256) : (n.toUInt8).toNat = n := by
  simp; omega
/-- What was encoded is decoded. -/
theorem decode_e1 (r : Nat) (h : okR r) (t : List UInt8) : decodeL (e1 r ++ t) = (r, (e1 r).length) := by
  rw [decodeL_N]
  unfold okR at h
  by_cases h1 : r < 128
  · rw [e1_ascii r h1]
    simp only [List.cons_append, List.nil_append, List.getD_cons_zero, List.length_cons, List.length_nil]
    rw [decodeN_ascii _ _ _ _ _ (by rw [toU r (by omega)]; exact h1), toU r (by omega)]
  by_cases h2 : r ≤ 2047
  · have e : e1 r = [(192 + r / 64).toUInt8, (128 + r % 64).toUInt8] := by
      unfold e1 encodeRune
      rw [encodeRuneZ_two (by omega) (by omega)]
      simp only [List.map_cons, List.map_nil]
      congr 1
    rw [e]
    simp only [List.cons_append, List.nil_append, List.getD_cons_zero, List.getD_cons_succ, List.length_cons, List.length_nil]
    rw [toU _ (by omega), toU _ (by omega)]
    unfold decodeN
    rw [if_neg (by omega), if_pos ⟨by omega, by omega, by omega⟩, if_pos (by omega)]
    congr 1
    omega
  by_cases h3 : r ≤ 65535
  · have e : e1 r = [(224 + r / 4096).toUInt8, (128 + r / 64 % 64).toUInt8, (128 + r % 64).toUInt8] := by
      unfold e1 encodeRune
      rw [encodeRuneZ_three (by omega)]
      simp only [List.map_cons, List.map_nil]
      congr 1
    rw [e]
    simp only [List.cons_append, List.nil_append, List.getD_cons_zero, List.getD_cons_succ, List.length_cons, List.length_nil]
    rw [toU _ (by omega), toU _ (by omega), toU _ (by omega)]
    have ev : (224 + r / 4096) % 16 * 4096 + (128 + r / 64 % 64) % 64 * 64 + (128 + r % 64) % 64 = r := by omega
    unfold decodeN
    rw [ev, if_neg (by omega), if_neg (by omega), if_pos ⟨by omega, ⟨by omega, by omega⟩, by omega, by omega⟩, if_pos ⟨by omega, by omega⟩]
  · have e : e1 r = [(240 + r / 262144).toUInt8, (128 + r / 4096 % 64).toUInt8, (128 + r / 64 % 64).toUInt8, (128 + r % 64).toUInt8] := by
      unfold e1 encodeRune
      rw [encodeRuneZ_four (by omega) (by omega)]
      simp only [List.map_cons, List.map_nil]
      congr 1
    rw [e]
    simp only [List.cons_append, List.nil_append, List.getD_cons_zero, List.getD_cons_succ, List.length_cons, List.length_nil]
    rw [toU _ (by omega), toU _ (by omega), toU _ (by omega), toU _ (by omega)]
    have ev : (240 + r / 262144) % 8 * 262144 + (128 + r / 4096 % 64) % 64 * 4096 + (128 + r / 64 % 64) % 64 * 64 + (128 + r % 64) % 64 = r := by omega
    unfold decodeN
    rw [ev, if_neg (by omega), if_neg (by omega), if_neg (by omega), if_pos ⟨by omega, ⟨by omega, by omega⟩, ⟨by omega, by omega⟩, by omega, by omega⟩, if_pos ⟨by omega, by omega⟩]

theorem okR_not_bad (r : Nat) (h : okR r) : ¬ (r = 65533 ∧ (e1 r).length = 1) := by
  rintro ⟨rfl, h1⟩
  revert h1
  unfold e1 encodeRune
  rw [encodeRuneZ_three (by omega)]
  simp
theorem sg_e1 (r : Nat) (h : okR r) (t : List UInt8) : sg (e1 r ++ t) = r :: sg t := by
  rw [sg_step _ (by simp [e1_ne]), decode_e1 r h t]
  simp
theorem valid_e1 (r : Nat) (h : okR r) (t : List UInt8) : validD (e1 r ++ t) = validD t := by
  rw [validD_step _ (by simp [e1_ne]), decode_e1 r h t]
  rw [if_neg (okR_not_bad r h)]
  simp
theorem okRs_cons {r : Nat} {t : List Nat} (h : okRs (r :: t)) : okR r ∧ okRs t := ⟨h r (by simp), fun x hx => h x (by simp [hx])⟩
theorem okRs_append {a b : List Nat} (ha : okRs a) (hb : okRs b) : okRs (a ++ b) := fun x hx => by
  rcases List.mem_append.1 hx with h | h
  · exact ha x h
  · exact hb x h
theorem okRs_nil : okRs [] := fun x hx => by simp at hx
theorem sg_en : ∀ (rs : List Nat), okRs rs → ∀ t, sg (en rs ++ t) = rs ++ sg t
  | [], _, t => rfl
  | r :: rs, h, t => by
    show sg ((e1 r ++ en rs) ++ t) = r :: (rs ++ sg t)
    rw [List.append_assoc, sg_e1 r (okRs_cons h).1, sg_en rs (okRs_cons h).2 t]
theorem valid_en : ∀ (rs : List Nat), okRs rs → ∀ t, validD (en rs ++ t) = validD t
  | [], _, t => rfl
  | r :: rs, h, t => by
    show validD ((e1 r ++ en rs) ++ t) = _
    rw [List.append_assoc, valid_e1 r (okRs_cons h).1, valid_en rs (okRs_cons h).2 t]
theorem sg_en0 (rs : List Nat) (h : okRs rs) : sg (en rs) = rs := by
  have := sg_en rs h []
  simpa [sg_nil] using this
theorem valid_en0 (rs : List Nat) (h : okRs rs) : validD (en rs) = true := by
  have := valid_en rs h []
  simpa [validD_nil] using this
theorem en_append : ∀ a b : List Nat, en (a ++ b) = en a ++ en b
  | [], b => rfl
  | r :: a, b => by
    show e1 r ++ en (a ++ b) = (e1 r ++ en a) ++ en b
    rw [en_append a b, List.append_assoc]
theorem en_one (r : Nat) : en [r] = e1 r := by simp [en]
theorem en_eq_nil {a : List Nat} : en a = [] ↔ a = [] := by
  cases a with
  | nil => simp [en]
  | cons r t => simp [en, e1_ne]
/-- Well-formed bytes are the bytes of signs. -/
theorem valid_iff (l : List UInt8) : validD l = true ↔ ∃ rs, okRs rs ∧ l = en rs :=
  ⟨fun h => ⟨sg l, okRs_sg l, (en_of_valid h).symm⟩, fun ⟨rs, ho, e⟩ => e ▸ valid_en0 rs ho⟩

/-! ### Count, Plain -/
def countZ (l : List UInt8) : Int := if validD l then ((sg l).length : Int) else -1
def bareB (r : Nat) (first : Bool) : Bool :=
  (decide (97 ≤ r) && decide (r ≤ 122)) || (!first && ((decide (65 ≤ r) && decide (r ≤ 90)) || (decide (48 ≤ r) && decide (r ≤ 57)) || decide (r = 95) || decide (r = 64)))
def plainGo (first : Bool) : List Nat → Bool
  | [] => true
  | r :: t => bareB r first && plainGo false t
def plainB (l : List UInt8) : Bool := plainGo true (sg l) && decide (l ≠ [])

end Go.Proofs.YtjacoodfhkaioabGreatDoor
namespace Go.Proofs.YtjacoodfhkaioabGreatDoor
open Go.ChangeShapes Go.WideShapes Go.ChangeAt Go.RowKit Go.Shelf
set_option linter.unusedSimpArgs false
set_option linter.unusedVariables false
set_option maxRecDepth 2000
theorem validString_w (s : ByteArray) (w : World) (hs : s.size ≤ 9223372036854775807) (hT : Lib.Utf8Tabs 0 1 w) :
    Calls Tryz.prog 28 #[.string s] w fun e w' => e = .returned (.bool (Lib.validD s.data.toList)) ∧ Below w.heap.size w w' := Any.utf8_ValidString Tryz.lays196 s w hs hT
theorem sliteClone_w (s : ByteArray) (w : World) (hlim : s.size ≤ 281474976710656) :
    Calls Tryz.prog 94 #[.string s] w fun e w' => e = .returned (.string s) ∧ Below w.heap.size w w' := Any.stringslite_Clone Tryz.laysM316 s w hlim
theorem sclone_w (s : ByteArray) (w : World) (hlim : s.size ≤ 281474976710656) :
    Calls Tryz.prog 74 #[.string s] w fun e w' => e = .returned (.string s) ∧ Below w.heap.size w w' := by
  go_enter Tryz.func74, Tryz.ntmps74
  go_wp2_with (go_at_call 94; refine (sliteClone_w s _ hlim).mono ?_; rintro e w1 ⟨rfl, hb⟩)
  go_ret
  exact ⟨rfl, hb⟩
end Go.Proofs.YtjacoodfhkaioabGreatDoor
namespace Go.Proofs.YtjacoodfhkaioabGreatDoor
open Go.ChangeShapes Go.WideShapes Go.ChangeAt Go.RowKit Go.Shelf
set_option linter.unusedSimpArgs false
set_option linter.unusedVariables false
set_option maxRecDepth 2000

theorem isEmpty_bytes (s : ByteArray) : (!s.toList.isEmpty) = decide (s.data.toList ≠ []) := by
  rw [← decide_eq_emptyBytes, ← decide_not, decide_eq_decide]
  constructor
  · intro h e; apply h; cases s with | mk d => (simp at e; subst e; rfl)
  · rintro h rfl; exact h rfl
theorem valid_w (s : ByteArray) (w : World) (hs : s.size ≤ 9223372036854775807) (hT : Lib.Utf8Tabs 0 1 w) :
    Calls Tryz.prog 16 #[.string s] w fun e w' => e = .returned (.bool (Lib.validD s.data.toList)) ∧ Below w.heap.size w w' := by
  go_enter Tryz.func16, Tryz.ntmps16
  go_wp2_with (go_at_call 28; refine (validString_w s _ hs hT).mono ?_; rintro e w1 ⟨rfl, hb⟩)
  go_ret
  exact ⟨rfl, hb⟩
theorem rvalid_w (s : ByteArray) (w : World) (hs : s.size ≤ 9223372036854775807) (hT : Lib.Utf8Tabs 0 1 w) :
    Calls Tryz.prog 37 #[.string s] w fun e w' => e = .returned (.bool (Lib.validD s.data.toList)) ∧ Below w.heap.size w w' := by
  go_enter Tryz.func37, Tryz.ntmps37
  go_wp2_with (go_at_call 28; refine (validString_w s _ hs hT).mono ?_; rintro e w1 ⟨rfl, hb⟩)
  go_ret
  exact ⟨rfl, hb⟩

theorem iter_fresh {w w1 : World} (hb : Below w.heap.size w w1) (s : ByteArray) : (w1.iter s 0).heap[w1.heap.size]? = some (.stringIter s 0) ∧ Below w.heap.size w (w1.iter s 0) :=
  ⟨World.iter_heap w1 s 0, hb.alloc hb.size _⟩

set_option maxHeartbeats 1000000 in
theorem count_w (s : ByteArray) (w : World) (hs : s.size ≤ 9223372036854775807) (hT : Lib.Utf8Tabs 0 1 w) :
    Calls Tryz.prog 67 #[.string s] w fun e w' => e = .returned (.int .i64 (countZ s.data.toList)) ∧ Below w.heap.size w w' := by
  obtain ⟨R, hR⟩ : ∃ R, countZ s.data.toList = R := ⟨_, rfl⟩
  rw [hR]
  unfold countZ at hR
  by_cases hv : Lib.validD s.data.toList = true
  · rw [if_pos hv] at hR
    go_enter Tryz.func67, Tryz.ntmps67
    go_wp2_with (go_at_call 16; refine (valid_w s _ hs hT).mono ?_; rintro e w1 ⟨rfl, hb⟩)
    go_loopw [3] (fun n wr => ∃ (pos k : Nat), n = .int .i64 (k : Int) ∧ k ≤ pos ∧ wr.heap[w1.heap.size]? = some (.stringIter s pos) ∧ Below w.heap.size w wr ∧ Hid (k + (sg (s.data.toList.drop pos)).length = (sg s.data.toList).length)) (fun _ wr => s.size - wr.iterPos w1.heap.size)
    case atStart => exact ⟨0, 0, rfl, Nat.le_refl _, (iter_fresh hb s).1, (iter_fresh hb s).2, hid (by simp)⟩
    case round =>
      obtain ⟨pos, k, rfl, hkp, hit, hbw, hH⟩ := hrel
      by_cases hp : pos < s.size
      · have hnx : ∀ ty, (Instr.next (.pointer (some ⟨w1.heap.size, 0, none⟩)) true ty).run Tryz.prog wr = _ := fun ty => Lib.run_next_any_at wr w1.heap.size s pos ty hit hp
        have hwd := Lib.width_pos s pos
        have hit2 := Lib.iterAt_heap wr w1.heap.size s pos (pos + (Utf8.decode s pos).2) hit
        have hbw2 := Lib.below_iterAt hbw (k := w1.heap.size) hb.size s (pos + (Utf8.decode s pos).2)
        have hst : Hid (sg (s.data.toList.drop pos) = _) := hid (sg_at s pos hp)
        go_wp2
        go_roundw
        case rel =>
          refine ⟨pos + (Utf8.decode s pos).2, k + 1, by go_num, by omega, hit2, hbw2, hid ?_⟩
          have h1 := hH.out
          rw [hst.out] at h1
          simp only [List.length_cons] at h1
          omega
        case measure =>
          simp only [World.iterPos, hit2, hit]
          omega
      · have hnx : ∀ ty, (Instr.next (.pointer (some ⟨w1.heap.size, 0, none⟩)) true ty).run Tryz.prog wr = _ := fun ty => Lib.run_next_end_at wr w1.heap.size s pos ty hit hp
        go_wp2
        go_ret
        have h1 := hH.out
        rw [sg_end s pos hp] at h1
        refine ⟨?_, hbw⟩
        rw [← hR, ← h1]
        simp
  · rw [if_neg hv] at hR
    subst hR
    have hv' : Lib.validD s.data.toList = false := by simpa using hv
    go_enter Tryz.func67, Tryz.ntmps67
    go_wp2_with (go_at_call 16; refine (valid_w s _ hs hT).mono ?_; rintro e w1 ⟨rfl, hb⟩)
    go_ret
    exact ⟨rfl, hb⟩
set_option maxHeartbeats 1000000 in
theorem rcount_w (s : ByteArray) (w : World) (hs : s.size ≤ 9223372036854775807) (hT : Lib.Utf8Tabs 0 1 w) :
    Calls Tryz.prog 38 #[.string s] w fun e w' => e = .returned (.int .i64 (countZ s.data.toList)) ∧ Below w.heap.size w w' := by
  obtain ⟨R, hR⟩ : ∃ R, countZ s.data.toList = R := ⟨_, rfl⟩
  rw [hR]
  unfold countZ at hR
  by_cases hv : Lib.validD s.data.toList = true
  · rw [if_pos hv] at hR
    go_enter Tryz.func38, Tryz.ntmps38
    go_wp2_with (go_at_call 37; refine (rvalid_w s _ hs hT).mono ?_; rintro e w1 ⟨rfl, hb⟩)
    go_loopw [3] (fun n wr => ∃ (pos k : Nat), n = .int .i64 (k : Int) ∧ k ≤ pos ∧ wr.heap[w1.heap.size]? = some (.stringIter s pos) ∧ Below w.heap.size w wr ∧ Hid (k + (sg (s.data.toList.drop pos)).length = (sg s.data.toList).length)) (fun _ wr => s.size - wr.iterPos w1.heap.size)
    case atStart => exact ⟨0, 0, rfl, Nat.le_refl _, (iter_fresh hb s).1, (iter_fresh hb s).2, hid (by simp)⟩
    case round =>
      obtain ⟨pos, k, rfl, hkp, hit, hbw, hH⟩ := hrel
      by_cases hp : pos < s.size
      · have hnx : ∀ ty, (Instr.next (.pointer (some ⟨w1.heap.size, 0, none⟩)) true ty).run Tryz.prog wr = _ := fun ty => Lib.run_next_any_at wr w1.heap.size s pos ty hit hp
        have hwd := Lib.width_pos s pos
        have hit2 := Lib.iterAt_heap wr w1.heap.size s pos (pos + (Utf8.decode s pos).2) hit
        have hbw2 := Lib.below_iterAt hbw (k := w1.heap.size) hb.size s (pos + (Utf8.decode s pos).2)
        have hst : Hid (sg (s.data.toList.drop pos) = _) := hid (sg_at s pos hp)
        go_wp2
        go_roundw
        case rel =>
          refine ⟨pos + (Utf8.decode s pos).2, k + 1, by go_num, by omega, hit2, hbw2, hid ?_⟩
          have h1 := hH.out
          rw [hst.out] at h1
          simp only [List.length_cons] at h1
          omega
        case measure =>
          simp only [World.iterPos, hit2, hit]
          omega
      · have hnx : ∀ ty, (Instr.next (.pointer (some ⟨w1.heap.size, 0, none⟩)) true ty).run Tryz.prog wr = _ := fun ty => Lib.run_next_end_at wr w1.heap.size s pos ty hit hp
        go_wp2
        go_ret
        have h1 := hH.out
        rw [sg_end s pos hp] at h1
        refine ⟨?_, hbw⟩
        rw [← hR, ← h1]
        simp
  · rw [if_neg hv] at hR
    subst hR
    have hv' : Lib.validD s.data.toList = false := by simpa using hv
    go_enter Tryz.func38, Tryz.ntmps38
    go_wp2_with (go_at_call 37; refine (rvalid_w s _ hs hT).mono ?_; rintro e w1 ⟨rfl, hb⟩)
    go_ret
    exact ⟨rfl, hb⟩

end Go.Proofs.YtjacoodfhkaioabGreatDoor
namespace Go.Proofs.YtjacoodfhkaioabGreatDoor
open Go.ChangeShapes Go.WideShapes Go.ChangeAt Go.RowKit Go.Shelf
set_option linter.unusedSimpArgs false
set_option linter.unusedVariables false
set_option maxRecDepth 2000

/-! ### the library's -/
theorem decodeRune_w (s : ByteArray) (w : World) (hT : Lib.Utf8Tabs 0 1 w) :
    Calls Tryz.prog 79 #[.string s] w fun e w' => e = .returned (.tuple #[.int .i32 (Lib.decodeGo s).1, .int .i64 (Lib.decodeGo s).2]) ∧ Below w.heap.size w w' := Any.utf8_DecodeRuneInString Tryz.lays197 s w hT
theorem validRune_w (r : Int) (w : World) :
    Calls Tryz.prog 130 #[.int .i32 r] w fun e w' => e = .returned (.bool (Lib.validRune r)) ∧ w' = w := Any.utf8_ValidRune Tryz.lays119 r w
theorem hasPrefix_w (s p : ByteArray) (w : World) :
    Calls Tryz.prog 107 #[.string s, .string p] w fun e w' => e = .returned (.bool (Lib.hasPrefix s.data.toList p.data.toList)) ∧ w' = w := Any.strings_HasPrefix Tryz.lays99 s p w
theorem appendRune_w (B : Nat) (v : Value) (n : Nat) (xs : List Value) (r : Int) (hr0 : -2147483648 ≤ r) (hr1 : r ≤ 2147483647) (w : World) (hown : w.ownsRowF B 5 1 v n xs) (hlen : n + 4 ≤ 140737488355328) (hBw : B ≤ w.heap.size) :
    Calls Tryz.prog 43 #[v, .int .i32 r] w fun e w' => ∃ v', e = .returned v' ∧ w'.ownsRowF B 5 1 v' (n + (Lib.runeCells r).length) (xs ++ Lib.runeCells r) ∧ ∃ o, (w.alloc o).grownBy w' v.ownBlock := Any.utf8_AppendRune_row Tryz.lays242 (by kernel_rfl) B v n xs r hr0 hr1 w hown hlen hBw
theorem trailing_w (x : Nat) (hx : x < 18446744073709551616) (w : World) (hT : x ≠ 0 → TabAt 4 Lib.deBruijn64tab w) :
    Calls Tryz.prog 129 #[.int .u64 x] w fun e w' => e = .returned (.int .i64 (Lib.ctz 64 x)) ∧ w' = w := Any7.bits_TrailingZeros Tryz.lays7_27 x hx w hT
def hiddenB (r : Nat) : Bool := decide (r < 32) || decide (r = 127)
theorem hidden_w (r : Nat) (w : World) :
    Calls Tryz.prog 98 #[.int .i32 (r : Int)] w fun e w' => e = .returned (.bool (hiddenB r)) ∧ w = w' := by
  go_enter Tryz.func98, Tryz.ntmps98
  go_wp2
  all_goals go_ret
  all_goals (refine ⟨?_, rfl⟩; first | (simp [hiddenB]; done) | (simp [hiddenB]; omega) | (simp [hiddenB]; rw [Bool.eq_iff_iff]; simp; omega))
theorem bare_w (r : Nat) (k : Int) (w : World) :
    Calls Tryz.prog 93 #[.int .i32 (r : Int), .int .i64 k] w fun e w' => e = .returned (.bool (bareB r (!decide (0 < k)))) ∧ w = w' := by
  go_enter Tryz.func93, Tryz.ntmps93
  go_wp2
  all_goals go_ret
  all_goals (refine ⟨?_, rfl⟩; go_light; simp only [beq_iff_eq, beq_eq_false_iff_ne, ne_eq] at *; by_cases hk : 0 < k)
  all_goals (simp [bareB, hk]; try omega)
end Go.Proofs.YtjacoodfhkaioabGreatDoor
namespace Go.Proofs.YtjacoodfhkaioabGreatDoor
open Go.ChangeShapes Go.WideShapes Go.ChangeAt Go.RowKit Go.Shelf
set_option linter.unusedSimpArgs false
set_option linter.unusedVariables false
set_option maxRecDepth 2000
set_option maxHeartbeats 1000000 in
theorem plain_w (s : ByteArray) (w : World) :
    Calls Tryz.prog 73 #[.string s] w fun e w' => e = .returned (.bool (plainB s.data.toList)) ∧ Below w.heap.size w w' := by
  obtain ⟨R, hR⟩ : ∃ R, plainB s.data.toList = R := ⟨_, rfl⟩
  rw [hR]
  unfold plainB at hR
  go_enter Tryz.func73, Tryz.ntmps73
  go_wp2
  go_loopw [] (fun wr => ∃ (pos : Nat), wr.heap[w.heap.size]? = some (.stringIter s pos) ∧ Below w.heap.size w wr ∧ Hid (plainGo (decide (pos = 0)) (sg (s.data.toList.drop pos)) = plainGo true (sg s.data.toList))) (fun wr => s.size - wr.iterPos w.heap.size)
  case atStart => exact ⟨0, (iter_fresh (Below.refl _ w) s).1, (iter_fresh (Below.refl _ w) s).2, hid (by simp)⟩
  case round =>
    obtain ⟨pos, hit, hbw, hH⟩ := hrel
    by_cases hp : pos < s.size
    · have hnx : ∀ ty, (Instr.next (.pointer (some ⟨w.heap.size, 0, none⟩)) true ty).run Tryz.prog wr = _ := fun ty => Lib.run_next_any_at wr w.heap.size s pos ty hit hp
      have hwd := Lib.width_pos s pos
      have hit2 := Lib.iterAt_heap wr w.heap.size s pos (pos + (Utf8.decode s pos).2) hit
      have hbw2 := Lib.below_iterAt hbw (k := w.heap.size) (Nat.le_refl _) s (pos + (Utf8.decode s pos).2)
      have hst : Hid (sg (s.data.toList.drop pos) = _) := hid (sg_at s pos hp)
      have hfi : (!decide ((0:Int) < (pos : Int))) = decide (pos = 0) := by rw [Bool.eq_iff_iff]; simp
      cases hbb : bareB (Utf8.decode s pos).1 (decide (pos = 0)) with
      | true =>
        go_wp2_with (go_at_call 93; refine (bare_w _ _ _).mono ?_; (try rw [hfi]); rw [hbb]; rintro e w1 ⟨rfl, rfl⟩)
        go_roundw
        case rel =>
          refine ⟨pos + (Utf8.decode s pos).2, hit2, hbw2, hid ?_⟩
          have h1 := hH.out
          rw [hst.out] at h1
          simp only [plainGo, hbb, Bool.true_and] at h1
          have : decide (pos + (Utf8.decode s pos).2 = 0) = false := by simp; omega
          rw [this, h1]
        case measure =>
          simp only [World.iterPos, hit2, hit]
          omega
      | false =>
        go_wp2_with (go_at_call 93; refine (bare_w _ _ _).mono ?_; (try rw [hfi]); rw [hbb]; rintro e w1 ⟨rfl, rfl⟩)
        go_ret
        have h1 := hH.out
        rw [hst.out] at h1
        simp only [plainGo, hbb, Bool.false_and] at h1
        refine ⟨?_, hbw2⟩
        rw [← hR, ← h1]
        rfl
    · have hnx : ∀ ty, (Instr.next (.pointer (some ⟨w.heap.size, 0, none⟩)) true ty).run Tryz.prog wr = _ := fun ty => Lib.run_next_end_at wr w.heap.size s pos ty hit hp
      have h1 := hH.out
      rw [sg_end s pos hp] at h1
      have h2 : R = decide (s.data.toList ≠ []) := by rw [← hR, ← h1]; simp [plainGo]
      clear hR h1 hH
      go_wp2
      go_ret
      refine ⟨?_, hbw⟩
      rw [h2, ← isEmpty_bytes]
      rfl
end Go.Proofs.YtjacoodfhkaioabGreatDoor
