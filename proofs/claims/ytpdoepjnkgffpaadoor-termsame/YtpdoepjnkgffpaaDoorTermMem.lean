/- Terms as they lie in memory. -/
import Derived.Test.YtpdoepjnkgffpaaDoorTermKit
namespace Go.Proofs.YtpdoepjnkgffpaaDoor
open Go.ChangeShapes Go.WideShapes Go.ChangeAt Go.RowKit
set_option linter.unusedSimpArgs false
set_option linter.unusedVariables false
set_option maxRecDepth 2000
inductive Tm where
  | mk (k : Int) (neg : Bool) (d : List Nat) (nm : ByteArray) (n : Int) (l : List Tm) (b : List Nat) : Tm
/-- all blocks that were there are as they were, but those of F -/
structure Kept (F : Nat → Prop) (w w' : World) : Prop where
  os : w'.os = w.os
  tape : w'.tape = w.tape
  output : w'.output = w.output
  size : w.heap.size ≤ w'.heap.size
  block : ∀ k, k < w.heap.size → ¬ F k → w'.heap[k]? = w.heap[k]?
theorem Kept.refl (F : Nat → Prop) (w : World) : Kept F w w := ⟨rfl, rfl, rfl, Nat.le_refl _, fun _ _ _ => rfl⟩
theorem Kept.trans {F : Nat → Prop} {a b c : World} (h : Kept F a b) (k : Kept F b c) : Kept F a c :=
  ⟨k.os.trans h.os, k.tape.trans h.tape, k.output.trans h.output, Nat.le_trans h.size k.size, fun i hi hn => (k.block i (Nat.lt_of_lt_of_le hi h.size) hn).trans (h.block i hi hn)⟩
/-- what is new may be turned too -/
theorem Kept.then {F G : Nat → Prop} {a b c : World} (h : Kept F a b) (k : Kept G b c) (hG : ∀ i, G i → F i ∨ a.heap.size ≤ i) : Kept F a c :=
  ⟨k.os.trans h.os, k.tape.trans h.tape, k.output.trans h.output, Nat.le_trans h.size k.size, fun i hi hn => (k.block i (Nat.lt_of_lt_of_le hi h.size) (fun g => (hG i g).elim hn (fun h => by omega))).trans (h.block i hi hn)⟩
theorem Kept.mono {F G : Nat → Prop} {w w' : World} (h : Kept F w w') (hF : ∀ k, F k → G k) : Kept G w w' := ⟨h.os, h.tape, h.output, h.size, fun k hk hn => h.block k hk (fun hf => hn (hF k hf))⟩
theorem Kept.of_below {F : Nat → Prop} {w w' : World} (h : Below w.heap.size w w') : Kept F w w' := ⟨h.os, h.tape, h.output, h.size, fun k hk _ => h.block k hk⟩
theorem Kept.of_grown {F : Nat → Prop} {w w' : World} {row : Option Nat} (h : w.grownBy w' row) (hr : ∀ k, row = some k → F k) : Kept F w w' :=
  ⟨h.os, h.tape, h.output, h.size, fun k hk hn => h.block k hk (fun e => hn (hr k e.symm))⟩
theorem Kept.of_alloc {F : Nat → Prop} (w : World) (o : Obj) : Kept F w (w.alloc o) := Kept.of_below ((Below.refl _ w).alloc (Nat.le_refl _) o)
theorem Kept.of_set {F : Nat → Prop} (w : World) {p : Addr} (hp : F p.block) (u : Value) : Kept F w (w.setCell p u) :=
  ⟨rfl, rfl, rfl, by simp, fun k _ hn => Below.heap_setCell w p u k (fun e => hn (e ▸ hp))⟩
theorem Kept.below {F : Nat → Prop} {B : Nat} {w w' : World} (h : Kept F w w') (hB : B ≤ w.heap.size) (hF : ∀ k, F k → B ≤ k) : Below B w w' :=
  ⟨h.os, h.tape, h.output, h.size, fun k hk => h.block k (by omega) (fun hf => by have := hF k hf; omega)⟩
/-- cells in a row, in blocks of Z -/
def Ls (Z : Nat → Prop) (o : Option Addr) (vs : List Value) (w : World) : Prop := ∀ (j : Nat) (u : Value), vs[j]? = some u → ∃ a, o = some a ∧ Z a.block ∧ w.cell? (a.add j) = some u
theorem block_add (a : Addr) (n : Nat) : (a.add n).block = a.block := by unfold Addr.add; split <;> rfl
theorem add_add (a : Addr) (m n : Nat) : (a.add m).add n = a.add (m + n) := by
  unfold Addr.add
  by_cases h : m = 0
  · subst h; simp
  · by_cases h2 : n = 0
    · subst h2; simp [h]
    · simp [h, h2, Nat.add_assoc]
theorem add_zero (a : Addr) : a.add 0 = a := by simp [Addr.add]
/-- the blocks of Z are as they were -/
def Zs (Z : Nat → Prop) (w w' : World) : Prop := ∀ k, Z k → w'.heap[k]? = w.heap[k]?
theorem Zs.cell {Z : Nat → Prop} {w w' : World} (h : Zs Z w w') {a : Addr} (hz : Z a.block) (n : Nat) : w'.cell? (a.add n) = w.cell? (a.add n) := World.cell?_of_block (a := a.add n) (by rw [block_add]; exact h _ hz)
theorem Ls.zs {Z : Nat → Prop} {o : Option Addr} {vs : List Value} {w w' : World} (h : Ls Z o vs w) (hb : Zs Z w w') : Ls Z o vs w' := fun j u hu => by
  obtain ⟨a, ha, hB, hc⟩ := h j u hu
  exact ⟨a, ha, hB, (hb.cell hB j).trans hc⟩
theorem Ls.mono {Z Z' : Nat → Prop} {o : Option Addr} {vs : List Value} {w : World} (h : Ls Z o vs w) (hB : ∀ k, k < w.heap.size → Z k → Z' k) : Ls Z' o vs w := fun j u hu => by
  obtain ⟨a, ha, hb, hc⟩ := h j u hu
  exact ⟨a, ha, hB _ (by have := World.block_lt_of_cell? _ _ hc; rwa [block_add] at this) hb, hc⟩
theorem Ls.nil (Z : Nat → Prop) (o : Option Addr) (w : World) : Ls Z o [] w := fun j u hu => by simp at hu
abbrev lim (d : List Nat) : List Value := d.map fun (x : Nat) => Value.int .u32 (x : Int)
abbrev bts (b : List Nat) : List Value := b.map fun (x : Nat) => Value.int .u8 (x : Int)
theorem Ls.lies {Z : Nat → Prop} {o : Option Addr} {d : List Nat} {w : World} (h : Ls Z o (lim d) w) : Lies o d w := fun j x hx => by
  obtain ⟨a, ha, _, hc⟩ := h j (.int .u32 (x : Int)) (by simp [lim, hx])
  exact ⟨a, ha, hc⟩
/-- bytes in a row -/
def LsB (Z : Nat → Prop) (o : Option Addr) (b : List Nat) (w : World) : Prop := Ls Z o (bts b) w ∧ Lm 256 b
theorem LsB.zs {Z : Nat → Prop} {o : Option Addr} {b : List Nat} {w w' : World} (h : LsB Z o b w) (hb : Zs Z w w') : LsB Z o b w' := ⟨h.1.zs hb, h.2⟩
theorem LsB.mono {Z Z' : Nat → Prop} {o : Option Addr} {b : List Nat} {w : World} (h : LsB Z o b w) (hB : ∀ k, k < w.heap.size → Z k → Z' k) : LsB Z' o b w := ⟨h.1.mono hB, h.2⟩
theorem LsB.nil (Z : Nat → Prop) (o : Option Addr) (w : World) : LsB Z o [] w := ⟨Ls.nil _ _ _, Lm.nil _⟩
/-- a term's cells at an address -/
def At7 (a : Addr) (v : Value) (w : World) : Prop := ∃ a0 a1 a2 a3 a4 a5 a6, v = .agg #[a0, a1, a2, a3, a4, a5, a6] ∧ w.cell? a = some a0 ∧ w.cell? (a.add 1) = some a1 ∧ w.cell? (a.add 2) = some a2 ∧ w.cell? (a.add 3) = some a3 ∧ w.cell? (a.add 4) = some a4 ∧ w.cell? (a.add 5) = some a5 ∧ w.cell? (a.add 6) = some a6
theorem At7.lt {a : Addr} {v : Value} {w : World} (h : At7 a v w) : a.block < w.heap.size := by
  obtain ⟨a0, a1, a2, a3, a4, a5, a6, rfl, h0, _⟩ := h
  exact World.block_lt_of_cell? _ _ h0
theorem At7.zs {Z : Nat → Prop} {a : Addr} {v : Value} {w w' : World} (h : At7 a v w) (hB : Z a.block) (hb : Zs Z w w') : At7 a v w' := by
  obtain ⟨a0, a1, a2, a3, a4, a5, a6, rfl, h0, h1, h2, h3, h4, h5, h6⟩ := h
  have q : ∀ n, w'.cell? (a.add n) = w.cell? (a.add n) := fun n => hb.cell hB n
  have q0 := q 0
  rw [add_zero] at q0
  exact ⟨a0, a1, a2, a3, a4, a5, a6, rfl, q0.trans h0, (q 1).trans h1, (q 2).trans h2, (q 3).trans h3, (q 4).trans h4, (q 5).trans h5, (q 6).trans h6⟩
mutual
def TV (Z : Nat → Prop) (w : World) : Tm → Value → Prop
  | .mk k neg d nm n l b, v => ∃ od cd ol cl ob cb, v = tmV k neg (.slice od d.length cd) nm n (.slice ol l.length cl) (.slice ob b.length cb) ∧ Ls Z od (lim d) w ∧ d.length ≤ cd ∧ Lm 4294967296 d ∧ LsB Z ob b w ∧ b.length ≤ cb ∧ l.length ≤ cl ∧ TR Z w l ol
def TR (Z : Nat → Prop) (w : World) : List Tm → Option Addr → Prop
  | [], _ => True
  | t :: l, o => ∃ a v, o = some a ∧ Z a.block ∧ At7 a v w ∧ TV Z w t v ∧ TR Z w l (some (a.add 7))
end
mutual
theorem TV.zs {Z : Nat → Prop} {w w' : World} (hb : Zs Z w w') : ∀ (t : Tm) (v : Value), TV Z w t v → TV Z w' t v
  | .mk k neg d nm n l b, v, h => by
    unfold TV at h ⊢
    obtain ⟨od, cd, ol, cl, ob, cb, hv, h1, h2, h3, h4, h5, h6, h7⟩ := h
    exact ⟨od, cd, ol, cl, ob, cb, hv, h1.zs hb, h2, h3, h4.zs hb, h5, h6, TR.zs hb l ol h7⟩
theorem TR.zs {Z : Nat → Prop} {w w' : World} (hb : Zs Z w w') : ∀ (l : List Tm) (o : Option Addr), TR Z w l o → TR Z w' l o
  | [], _, _ => by unfold TR; trivial
  | t :: l, o, h => by
    unfold TR at h ⊢
    obtain ⟨a, v, ho, hB, h1, h2, h3⟩ := h
    exact ⟨a, v, ho, hB, h1.zs hB hb, TV.zs hb t v h2, TR.zs hb l _ h3⟩
end
mutual
theorem TV.mono {Z Z' : Nat → Prop} {w : World} (hb : ∀ k, k < w.heap.size → Z k → Z' k) : ∀ (t : Tm) (v : Value), TV Z w t v → TV Z' w t v
  | .mk k neg d nm n l b, v, h => by
    unfold TV at h ⊢
    obtain ⟨od, cd, ol, cl, ob, cb, hv, h1, h2, h3, h4, h5, h6, h7⟩ := h
    exact ⟨od, cd, ol, cl, ob, cb, hv, h1.mono hb, h2, h3, h4.mono hb, h5, h6, TR.mono hb l ol h7⟩
theorem TR.mono {Z Z' : Nat → Prop} {w : World} (hb : ∀ k, k < w.heap.size → Z k → Z' k) : ∀ (l : List Tm) (o : Option Addr), TR Z w l o → TR Z' w l o
  | [], _, _ => by unfold TR; trivial
  | t :: l, o, h => by
    unfold TR at h ⊢
    obtain ⟨a, v, ho, hB, h1, h2, h3⟩ := h
    exact ⟨a, v, ho, hb _ h1.lt hB, h1, TV.mono hb t v h2, TR.mono hb l _ h3⟩
end
def Tm.kind : Tm → Int | .mk k _ _ _ _ _ _ => k
def Tm.kids : Tm → List Tm | .mk k _ _ _ _ l _ => if k = 4 ∨ k = 6 then l else []
mutual
/-- a term and its parts, those ahead first -/
def parts : Tm → List Tm
  | .mk k neg d nm n l b => .mk k neg d nm n l b :: (if k = 4 ∨ k = 6 then partsL l else [])
def partsL : List Tm → List Tm
  | [] => []
  | t :: l => parts t ++ partsL l
end
mutual
def dep : Tm → Nat
  | .mk k _ _ _ _ l _ => if k = 4 ∨ k = 6 then depL l + 1 else 0
def depL : List Tm → Nat
  | [] => 0
  | t :: l => max (dep t) (depL l)
end
theorem parts_eq (t : Tm) : parts t = t :: partsL t.kids := by
  cases t with | mk k neg d nm n l b =>
  unfold parts Tm.kids
  split <;> simp [partsL, *]
theorem dep_kids (t : Tm) (h : t.kids ≠ []) : depL t.kids + 1 = dep t := by
  cases t with | mk k neg d nm n l b =>
  unfold dep
  unfold Tm.kids at h ⊢
  by_cases hk : k = 4 ∨ k = 6
  · simp [hk]
  · simp [hk] at h
theorem TR.at {Z : Nat → Prop} {w : World} : ∀ (l : List Tm) (a : Addr) (i : Nat) (t : Tm), TR Z w l (some a) → l[i]? = some t → ∃ v, Z a.block ∧ At7 (a.add (7 * i)) v w ∧ TV Z w t v
  | [], _, _, _, _, hi => by simp at hi
  | t :: l, a, 0, t', h, hi => by
    simp at hi; subst hi
    unfold TR at h
    obtain ⟨a', v, ho, hB, h1, h2, h3⟩ := h
    injection ho with ho; subst ho
    exact ⟨v, hB, by simpa [add_zero] using h1, h2⟩
  | t :: l, a, i + 1, t', h, hi => by
    unfold TR at h
    obtain ⟨a', v, ho, hB, h1, h2, h3⟩ := h
    injection ho with ho; subst ho
    simp at hi
    obtain ⟨v', hB', h4, h5⟩ := TR.at l _ i t' h3 hi
    refine ⟨v', hB, ?_, h5⟩
    rw [add_add] at h4
    rw [show 7 * (i + 1) = 7 + 7 * i by omega]; exact h4
end Go.Proofs.YtpdoepjnkgffpaaDoor
