/- Memory that an object holds: what a call on it may turn; a table of names and a row of names in memory. -/
import Derived.Test.YtibgdncfahffpaaDoorAtomsMath
import Derived.Test.YtibgdncfahffpaaDoorRows
import Derived.Below
import Derived.Handy
import Derived.Maps.OwnSet
import Derived.Maps.OwnOps
import Derived.Maps.Views
import Derived.Maps.AppendAt
import Derived.Deep.OwnRows
namespace Go.Proofs.YtibgdncfahffpaaDoor
open Go.ChangeShapes Go.WideShapes Go.ChangeAt Go.RowKit Go.Maps
set_option linter.unusedSimpArgs false
set_option linter.unusedVariables false

theorem below_le {B C : Nat} {w w' : World} (h : Below C w w') (hBC : B ≤ C) : Below B w w' := ⟨h.os, h.tape, h.output, h.size, fun k hk => h.block k (by omega)⟩
/-- all blocks that were there are as they were, but those of F -/
structure Kept (F : Nat → Prop) (w w' : World) : Prop where
  os : w'.os = w.os
  tape : w'.tape = w.tape
  output : w'.output = w.output
  size : w.heap.size ≤ w'.heap.size
  block : ∀ k, k < w.heap.size → ¬ F k → w'.heap[k]? = w.heap[k]?
theorem Kept.refl (F : Nat → Prop) (w : World) : Kept F w w := ⟨rfl, rfl, rfl, Nat.le_refl _, fun _ _ _ => rfl⟩
theorem Kept.trans {F : Nat → Prop} {a b c : World} (h : Kept F a b) (k : Kept F b c) : Kept F a c :=
  ⟨k.os.trans h.os, k.tape.trans h.tape, k.output.trans h.output, Nat.le_trans h.size k.size, fun i hi hn => (k.block i (Nat.lt_of_lt_of_le hi h.size) hn).trans (h.block i hi hn)⟩
/-- what is new may be turned too -/
theorem Kept.then {F G : Nat → Prop} {a b c : World} (h : Kept F a b) (k : Kept G b c) (hG : ∀ i, G i → F i ∨ a.heap.size ≤ i) : Kept F a c :=
  ⟨k.os.trans h.os, k.tape.trans h.tape, k.output.trans h.output, Nat.le_trans h.size k.size, fun i hi hn => (k.block i (Nat.lt_of_lt_of_le hi h.size) (fun g => (hG i g).elim hn (fun h => by omega))).trans (h.block i hi hn)⟩
theorem Kept.mono {F G : Nat → Prop} {w w' : World} (h : Kept F w w') (hF : ∀ k, F k → G k) : Kept G w w' := ⟨h.os, h.tape, h.output, h.size, fun k hk hn => h.block k hk (fun hf => hn (hF k hf))⟩
theorem Kept.of_below {F : Nat → Prop} {w w' : World} (h : Below w.heap.size w w') : Kept F w w' := ⟨h.os, h.tape, h.output, h.size, fun k hk _ => h.block k hk⟩
theorem Kept.of_grown {F : Nat → Prop} {w w' : World} {row : Option Nat} (h : w.grownBy w' row) (hr : ∀ k, row = some k → F k) : Kept F w w' :=
  ⟨h.os, h.tape, h.output, h.size, fun k hk hn => h.block k hk (fun e => hn (hr k e.symm))⟩
theorem Kept.of_alloc {F : Nat → Prop} (w : World) (o : Obj) : Kept F w (w.alloc o) := Kept.of_below ((Below.refl _ w).alloc (Nat.le_refl _) o)
theorem Kept.of_set {F : Nat → Prop} (w : World) {p : Addr} (hp : F p.block) (u : Value) : Kept F w (w.setCell p u) :=
  ⟨rfl, rfl, rfl, by simp, fun k _ hn => Below.heap_setCell w p u k (fun e => hn (e ▸ hp))⟩
theorem Kept.below {F : Nat → Prop} {B : Nat} {w w' : World} (h : Kept F w w') (hB : B ≤ w.heap.size) (hF : ∀ k, F k → B ≤ k) : Below B w w' :=
  ⟨h.os, h.tape, h.output, h.size, fun k hk => h.block k (by omega) (fun hf => by have := hF k hf; omega)⟩
/-- a struct of two fields -/
def Box (g : Nat) (u v : Value) (w : World) : Prop := w.cell? ⟨g, 0, none⟩ = some u ∧ w.cell? ⟨g, 1, none⟩ = some v ∧ w.frozen? ⟨g, 0, none⟩ = false ∧ w.frozen? ⟨g, 1, none⟩ = false
theorem Box.lt {g : Nat} {u v : Value} {w : World} (h : Box g u v w) : g < w.heap.size := World.block_lt_of_cell? _ _ h.1
theorem Box.of_block {g : Nat} {u v : Value} {w w' : World} (h : Box g u v w) (hb : w'.heap[g]? = w.heap[g]?) : Box g u v w' :=
  ⟨(World.cell?_of_block (a := ⟨g, 0, none⟩) hb).trans h.1, (World.cell?_of_block (a := ⟨g, 1, none⟩) hb).trans h.2.1, (World.frozen?_of_block (a := ⟨g, 0, none⟩) hb).trans h.2.2.1, (World.frozen?_of_block (a := ⟨g, 1, none⟩) hb).trans h.2.2.2⟩
theorem Box.new (w : World) (u v : Value) (t : TypeId) : Box w.heap.size u v (w.alloc (.cells #[u, v] t)) :=
  ⟨by rw [World.cell?_alloc_mark]; rfl, by rw [World.cell?_alloc_mark]; rfl, by rw [World.frozen?_alloc_mark]; simp, by rw [World.frozen?_alloc_mark]; simp⟩
theorem Box.set0 {g : Nat} {u v : Value} {w : World} (h : Box g u v w) (x : Value) : Box g x v (w.setCell ⟨g, 0, none⟩ x) :=
  ⟨World.cell?_setCell_same _ _ _ h.1, (World.cell?_setCell_other w ⟨g, 0, none⟩ ⟨g, 1, none⟩ _ (by simp)).trans h.2.1, (World.frozen?_setCells g [x] 0 w ⟨g, 0, none⟩).trans h.2.2.1, (World.frozen?_setCells g [x] 0 w ⟨g, 1, none⟩).trans h.2.2.2⟩
theorem Box.set1 {g : Nat} {u v : Value} {w : World} (h : Box g u v w) (x : Value) : Box g u x (w.setCell ⟨g, 1, none⟩ x) :=
  ⟨(World.cell?_setCell_other w ⟨g, 1, none⟩ ⟨g, 0, none⟩ _ (by simp)).trans h.1, World.cell?_setCell_same _ _ _ h.2.1, (World.frozen?_setCells g [x] 1 w ⟨g, 0, none⟩).trans h.2.2.1, (World.frozen?_setCells g [x] 1 w ⟨g, 1, none⟩).trans h.2.2.2⟩
/-- names in a row -/
abbrev Row (v : Value) (ns : List ByteArray) (w : World) : Prop := w.ownsRow 0 9 1 v ns.length (ns.map Value.string)
theorem Row.of_block {v : Value} {ns : List ByteArray} {w w' : World} (h : Row v ns w) (hb : ∀ k, v.ownBlock = some k → w'.heap[k]? = w.heap[k]?) : Row v ns w' := by
  obtain ⟨h1, h2 | ⟨g, cap, cur, rfl, hg, hc, rest⟩⟩ := h
  · exact ⟨h1, .inl h2⟩
  · exact ⟨h1, .inr ⟨g, cap, cur, rfl, hg, (hb g rfl).trans hc, rest⟩⟩
theorem Row.lt {v : Value} {ns : List ByteArray} {w : World} (h : Row v ns w) : ∀ k, v.ownBlock = some k → k < w.heap.size := by
  obtain ⟨h1, ⟨rfl, _⟩ | ⟨g, cap, cur, rfl, hg, hc, rest⟩⟩ := h
  · intro k hk; simp [Value.ownBlock] at hk
  · intro k hk
    simp [Value.ownBlock] at hk
    subst hk
    exact (Array.getElem?_eq_some_iff.1 hc).1
theorem Row.shape {v : Value} {ns : List ByteArray} {w : World} (h : Row v ns w) : ∃ o c, v = .slice o ns.length c ∧ ns.length ≤ c ∧ ∀ (j : Nat) (s : ByteArray), ns[j]? = some s → ∃ a, o = some a ∧ w.cell? (a.add j) = some (.string s) := by
  have h0 := h
  obtain ⟨h1, ⟨rfl, h2⟩ | ⟨g, cap, cur, rfl, hg, hc, hn, rest⟩⟩ := h
  · have : ns = [] := List.eq_nil_of_length_eq_zero h2
    subst this
    exact ⟨none, 0, rfl, Nat.le_refl _, fun j s hs => by simp at hs⟩
  · refine ⟨_, cap, rfl, hn, fun j s hs => ⟨_, rfl, ?_⟩⟩
    exact h0.cells (g := g) rfl j _ (by simp [hs])
/-- the numbers of names, in a map -/
def IsD (D : DataW Unit) (ns : List ByteArray) : Prop := ∀ s : ByteArray, Maps.has D (.string s.data.toList) = (pos ns s).isSome ∧ D.atKey (.string s.data.toList) (.lit (.int .i64 0)) = .lit (.int .i64 (((pos ns s).getD 0 : Nat) : Int))
theorem IsD.nil : IsD (.map []) [] := fun s => ⟨rfl, rfl⟩
theorem key_ne {a b : ByteArray} (h : a ≠ b) : (Lit.string a.data.toList) ≠ .string b.data.toList := fun e => h (by
  injection e with e
  cases a; cases b; simp at e; subst e; rfl)
theorem IsD.put {D : DataW Unit} {ns : List ByteArray} {s : ByteArray} (h : IsD D ns) (hm : Maps.IsMap D) (hp : pos ns s = none) : IsD (D.put (.string s.data.toList) (.lit (.int .i64 (ns.length : Int)))) (ns ++ [s]) := by
  intro x
  rw [pos_snoc]
  by_cases hx : x = s
  · subst hx
    rw [hp]
    rw [Maps.has_put_same hm (by first | trivial | exact rfl | simp [WideAt.IsKeyLit]), Maps.atKey_put_same hm (by first | trivial | exact rfl | simp [WideAt.IsKeyLit])]
    simp
  · rw [Maps.has_put_other (key_ne hx), Maps.atKey_put_other (key_ne hx), (h x).1, (h x).2]
    cases pos ns x with
    | none => simp [Ne.symm hx]
    | some k => simp
abbrev Mp (b : Nat) (n : Nat) (D : DataW Unit) (w : World) : Prop := w.ownsMap Tryd.prog 9 (plainElem Tryd.prog 3) b n D
/-- what a table's map says -/
def Nums (mv : Value) (ns : List ByteArray) (w : World) : Prop := (mv = .map none ∧ ns = []) ∨ ∃ bm D, mv = .map (some bm) ∧ Mp bm ns.length D w ∧ IsD D ns
/-- a table of names at block g, in blocks of F alone -/
def Tab (g : Nat) (F : Nat → Prop) (ns : List ByteArray) (w : World) : Prop :=
  ∃ mv sv, Box g mv sv w ∧ Row sv ns w ∧ sv.ownBlock ≠ some g ∧ Nums mv ns w ∧ F g ∧ (∀ k, sv.ownBlock = some k → F k) ∧ (∀ bm, mv = .map (some bm) → F bm) ∧ ∀ k, F k → k < w.heap.size
/-- the reference's: a struct of one field -/
def Nam (g : Nat) (F : Nat → Prop) (ns : List ByteArray) (w : World) : Prop :=
  ∃ sv, w.cell? ⟨g, 0, none⟩ = some sv ∧ w.frozen? ⟨g, 0, none⟩ = false ∧ Row sv ns w ∧ sv.ownBlock ≠ some g ∧ F g ∧ (∀ k, sv.ownBlock = some k → F k) ∧ ∀ k, F k → k < w.heap.size
theorem Nums.of_block {mv : Value} {ns : List ByteArray} {w w' : World} (h : Nums mv ns w) (hb : ∀ bm, mv = .map (some bm) → w'.heap[bm]? = w.heap[bm]?) : Nums mv ns w' := by
  rcases h with h | ⟨bm, D, rfl, ⟨es, cl, h1, h2⟩, h3⟩
  · exact .inl h
  · exact .inr ⟨bm, D, rfl, ⟨es, cl, (hb bm rfl).trans h1, h2⟩, h3⟩
theorem Tab.kept {g : Nat} {F G : Nat → Prop} {ns : List ByteArray} {w w' : World} (h : Tab g F ns w) (hk : Kept G w w') (hd : ∀ k, F k → ¬ G k) : Tab g F ns w' := by
  obtain ⟨mv, sv, hB, hR, hne, hN, f0, f1, f2, f3⟩ := h
  have hb : ∀ k, F k → w'.heap[k]? = w.heap[k]? := fun k hf => hk.block k (f3 k hf) (hd k hf)
  exact ⟨mv, sv, hB.of_block (hb _ f0), hR.of_block (fun k e => hb k (f1 k e)), hne, hN.of_block (fun bm e => hb bm (f2 bm e)), f0, f1, f2, fun k hf => Nat.lt_of_lt_of_le (f3 k hf) hk.size⟩
theorem Nam.kept {g : Nat} {F G : Nat → Prop} {ns : List ByteArray} {w w' : World} (h : Nam g F ns w) (hk : Kept G w w') (hd : ∀ k, F k → ¬ G k) : Nam g F ns w' := by
  obtain ⟨sv, hc, hf, hR, hne, f0, f1, f3⟩ := h
  have hb : ∀ k, F k → w'.heap[k]? = w.heap[k]? := fun k hf => hk.block k (f3 k hf) (hd k hf)
  exact ⟨sv, (World.cell?_of_block (a := ⟨g, 0, none⟩) (hb _ f0)).trans hc, (World.frozen?_of_block (a := ⟨g, 0, none⟩) (hb _ f0)).trans hf, hR.of_block (fun k e => hb k (f1 k e)), hne, f0, f1, fun k hf => Nat.lt_of_lt_of_le (f3 k hf) hk.size⟩
theorem Tab.below {g : Nat} {F : Nat → Prop} {ns : List ByteArray} {w w' : World} (h : Tab g F ns w) (hk : Below w.heap.size w w') : Tab g F ns w' := h.kept (G := fun _ => False) (Kept.of_below hk) (fun _ _ => id)
theorem Nam.below {g : Nat} {F : Nat → Prop} {ns : List ByteArray} {w w' : World} (h : Nam g F ns w) (hk : Below w.heap.size w w') : Nam g F ns w' := h.kept (G := fun _ => False) (Kept.of_below hk) (fun _ _ => id)
theorem law : Keyed Tryd.prog 9 := string_keyed Tryd.underlying9
theorem zeroE (w : World) : (zeroValue 3).run Tryd.prog w = .ok (.int .i64 0) w := by kernel_rfl
theorem infoS : (Tryd.prog.info? 9).map (fun i => (i.zero, i.size, i.bytes)) = some (some (.string ByteArray.empty), 1, 16) := by kernel_rfl
theorem info_parts {t : TypeId} {z : Value} {k b : Nat} (h : (Tryd.prog.info? t).map (fun i => (i.zero, i.size, i.bytes)) = some (some z, k, b)) : ∃ i, Tryd.prog.info? t = some i ∧ i.zero = some z ∧ i.size = k ∧ i.bytes = b := by
  cases hi : Tryd.prog.info? t with
  | none => rw [hi] at h; simp at h
  | some i =>
    rw [hi] at h
    simp only [Option.map_some, Option.some.injEq, Prod.mk.injEq] at h
    exact ⟨i, rfl, h.1, h.2.1, h.2.2⟩
end Go.Proofs.YtibgdncfahffpaaDoor
