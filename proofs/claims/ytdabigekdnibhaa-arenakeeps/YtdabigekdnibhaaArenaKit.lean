/- Words in a row in memory; the arena, and the reference's memory, as objects: what each call on them leaves. -/
import Derived.Test.YtdabigekdnibhaaRows
import Derived.Below
import Derived.Handy
import Derived.Deep.OwnRows
import Derived.Deep.QuietTactic
import Derived.BigQuiet
import Derived.Laws.CopyOwn
import Derived.Lib.SliceRun
import Derived.Lib.AppendZerosOnto
import Derived.Maps.AppendAt
namespace Go.Proofs.Ytdabigekdnibhaa
open Go.ChangeShapes Go.WideShapes Go.ChangeAt Go.RowKit
set_option linter.unusedSimpArgs false
set_option linter.unusedVariables false
set_option maxRecDepth 2000

theorem below_le {B C : Nat} {w w' : World} (h : Below C w w') (hBC : B ≤ C) : Below B w w' := ⟨h.os, h.tape, h.output, h.size, fun k hk => h.block k (by omega)⟩
theorem hid {p : Prop} (h : p) : Hid p := h
theorem below_drewN (w : World) (n : Nat) : Below w.heap.size w (w.drewN n) := by
  induction n with
  | zero => exact Below.refl _ _
  | succ n ih => exact ih.drew
/-- all blocks that were there are as they were, but those of F -/
structure Kept (F : Nat → Prop) (w w' : World) : Prop where
  os : w'.os = w.os
  tape : w'.tape = w.tape
  output : w'.output = w.output
  size : w.heap.size ≤ w'.heap.size
  block : ∀ k, k < w.heap.size → ¬ F k → w'.heap[k]? = w.heap[k]?
theorem Kept.refl (F : Nat → Prop) (w : World) : Kept F w w := ⟨rfl, rfl, rfl, Nat.le_refl _, fun _ _ _ => rfl⟩
theorem Kept.trans {F : Nat → Prop} {a b c : World} (h : Kept F a b) (k : Kept F b c) : Kept F a c :=
  ⟨k.os.trans h.os, k.tape.trans h.tape, k.output.trans h.output, Nat.le_trans h.size k.size, fun i hi hn => (k.block i (Nat.lt_of_lt_of_le hi h.size) hn).trans (h.block i hi hn)⟩
theorem Kept.mono {F G : Nat → Prop} {w w' : World} (h : Kept F w w') (hF : ∀ k, F k → G k) : Kept G w w' := ⟨h.os, h.tape, h.output, h.size, fun k hk hn => h.block k hk (fun hf => hn (hF k hf))⟩
theorem Kept.of_below {F : Nat → Prop} {w w' : World} (h : Below w.heap.size w w') : Kept F w w' := ⟨h.os, h.tape, h.output, h.size, fun k hk _ => h.block k hk⟩
theorem Kept.of_grown {F : Nat → Prop} {w w' : World} {row : Option Nat} (h : w.grownBy w' row) (hr : ∀ k, row = some k → F k) : Kept F w w' :=
  ⟨h.os, h.tape, h.output, h.size, fun k hk hn => h.block k hk (fun e => hn (hr k e.symm))⟩
theorem Kept.of_set {F : Nat → Prop} (w : World) {p : Addr} (hp : F p.block) (u : Value) : Kept F w (w.setCell p u) :=
  ⟨rfl, rfl, rfl, by simp, fun k _ hn => Below.heap_setCell w p u k (fun e => hn (e ▸ hp))⟩
theorem Kept.below {F : Nat → Prop} {B : Nat} {w w' : World} (h : Kept F w w') (hB : B ≤ w.heap.size) (hF : ∀ k, F k → B ≤ k) : Below B w w' :=
  ⟨h.os, h.tape, h.output, h.size, fun k hk => h.block k (by omega) (fun hf => by have := hF k hf; omega)⟩
/-- a struct of two fields -/
def Box (g : Nat) (u v : Value) (w : World) : Prop := w.cell? ⟨g, 0, none⟩ = some u ∧ w.cell? ⟨g, 1, none⟩ = some v ∧ w.frozen? ⟨g, 0, none⟩ = false ∧ w.frozen? ⟨g, 1, none⟩ = false
theorem Box.lt {g : Nat} {u v : Value} {w : World} (h : Box g u v w) : g < w.heap.size := World.block_lt_of_cell? _ _ h.1
theorem Box.of_block {g : Nat} {u v : Value} {w w' : World} (h : Box g u v w) (hb : w'.heap[g]? = w.heap[g]?) : Box g u v w' :=
  ⟨(World.cell?_of_block (a := ⟨g, 0, none⟩) hb).trans h.1, (World.cell?_of_block (a := ⟨g, 1, none⟩) hb).trans h.2.1, (World.frozen?_of_block (a := ⟨g, 0, none⟩) hb).trans h.2.2.1, (World.frozen?_of_block (a := ⟨g, 1, none⟩) hb).trans h.2.2.2⟩
theorem Box.new (w : World) (u v : Value) (t : TypeId) : Box w.heap.size u v (w.alloc (.cells #[u, v] t)) :=
  ⟨by rw [World.cell?_alloc_mark]; rfl, by rw [World.cell?_alloc_mark]; rfl, by rw [World.frozen?_alloc_mark]; simp, by rw [World.frozen?_alloc_mark]; simp⟩
theorem Box.set0 {g : Nat} {u v : Value} {w : World} (h : Box g u v w) (x : Value) : Box g x v (w.setCell ⟨g, 0, none⟩ x) :=
  ⟨World.cell?_setCell_same _ _ _ h.1, (World.cell?_setCell_other w ⟨g, 0, none⟩ ⟨g, 1, none⟩ _ (by simp)).trans h.2.1, (World.frozen?_setCells g [x] 0 w ⟨g, 0, none⟩).trans h.2.2.1, (World.frozen?_setCells g [x] 0 w ⟨g, 1, none⟩).trans h.2.2.2⟩
theorem Box.set1 {g : Nat} {u v : Value} {w : World} (h : Box g u v w) (x : Value) : Box g u x (w.setCell ⟨g, 1, none⟩ x) :=
  ⟨(World.cell?_setCell_other w ⟨g, 1, none⟩ ⟨g, 0, none⟩ _ (by simp)).trans h.1, World.cell?_setCell_same _ _ _ h.2.1, (World.frozen?_setCells g [x] 1 w ⟨g, 0, none⟩).trans h.2.2.1, (World.frozen?_setCells g [x] 1 w ⟨g, 1, none⟩).trans h.2.2.2⟩

/-- words as cells -/
def ws (l : List Int) : List Value := l.map (Value.int .u64)
theorem ws_length (l : List Int) : (ws l).length = l.length := by simp [ws]
theorem ws_append (a b : List Int) : ws (a ++ b) = ws a ++ ws b := by simp [ws]
theorem ws_take (a : List Int) (n : Nat) : (ws a).take n = ws (a.take n) := by simp [ws]
theorem ws_zeros (n : Nat) : List.replicate n (Value.int .u64 0) = ws (List.replicate n 0) := by simp [ws]
theorem ws_one (l : List Int) : ∀ u ∈ ws l, u.oneCell' = true := by
  intro u hu
  obtain ⟨x, _, rfl⟩ := List.mem_map.1 hu
  rfl
theorem ws_get {l : List Int} {j : Nat} {u : Value} (h : (ws l)[j]? = some u) : ∃ x, l[j]? = some x ∧ u = .int .u64 x := by
  simp only [ws, List.getElem?_map] at h
  cases hx : l[j]? with
  | none => rw [hx] at h; simp at h
  | some x => rw [hx] at h; simp at h; exact ⟨x, rfl, h.symm⟩
/-- words, all that a block holds -/
def Blk (h : Nat) (l : List Int) (w : World) : Prop := w.heap[h]? = some (.cells (ws l).toArray 28 (0, 0))
theorem Blk.lt {h : Nat} {l : List Int} {w : World} (b : Blk h l w) : h < w.heap.size := (Array.getElem?_eq_some_iff.1 b).1
theorem Blk.of_block {h : Nat} {l : List Int} {w w' : World} (b : Blk h l w) (e : w'.heap[h]? = w.heap[h]?) : Blk h l w' := e.trans b
theorem Blk.cell {h : Nat} {l : List Int} {w : World} (b : Blk h l w) {j : Nat} {x : Int} (hj : l[j]? = some x) : w.cell? ⟨h, j, none⟩ = some (.int .u64 x) := by
  unfold Blk at b
  simp [World.cell?, b, ws, hj]
theorem Blk.frozen {h : Nat} {l : List Int} {w : World} (b : Blk h l w) (j : Nat) : w.frozen? ⟨h, j, none⟩ = false := by
  unfold Blk at b
  simp [World.frozen?, b]
theorem Blk.set {h : Nat} {l : List Int} {w : World} (b : Blk h l w) (j : Nat) (x : Int) : Blk h (l.set j x) (w.setCell ⟨h, j, none⟩ (.int .u64 x)) := by
  unfold Blk at b ⊢
  simp [World.setCell, Array.getElem?_modify, b, ws, List.map_set]
theorem Blk.made (w : World) (n : Nat) : Blk w.heap.size (List.replicate n 0) (w.alloc (.cells (madeCells #[.int .u64 0] n) 28)) := by
  unfold Blk
  rw [heap_alloc_new]
  congr 2
  apply Array.ext
  · simp [madeCells, ws]
  · intro i h1 h2
    simp [madeCells, ws, Nat.mod_one]
/-- an arena at block g, in blocks of F alone -/
def Arn (g : Nat) (F : Nat → Prop) (l : List Int) (n : Nat) (w : World) : Prop :=
  ∃ h, Box g (.slice (some ⟨h, 0, none⟩) n n) (.int .i64 (l.length : Int)) w ∧ Blk h (l ++ List.replicate (n - l.length) 0) w ∧ h ≠ g ∧ l.length ≤ n ∧ n ≤ 1048576 ∧ F g ∧ F h ∧ ∀ k, F k → k < w.heap.size
/-- words in a row that may grow -/
abbrev RowW (v : Value) (l : List Int) (w : World) : Prop := w.ownsRow 0 28 1 v l.length (ws l)
/-- the reference's memory -/
def Mm (g : Nat) (F : Nat → Prop) (l : List Int) (n : Nat) (w : World) : Prop :=
  ∃ v, Box g v (.int .i64 (n : Int)) w ∧ RowW v l w ∧ v.ownBlock ≠ some g ∧ l.length ≤ n ∧ n ≤ 1048576 ∧ F g ∧ (∀ k, v.ownBlock = some k → F k) ∧ ∀ k, F k → k < w.heap.size
theorem RowW.of_block {v : Value} {l : List Int} {w w' : World} (h : RowW v l w) (hb : ∀ k, v.ownBlock = some k → w'.heap[k]? = w.heap[k]?) : RowW v l w' := by
  obtain ⟨h1, h2 | ⟨g, cap, cur, rfl, hg, hc, rest⟩⟩ := h
  · exact ⟨h1, .inl h2⟩
  · exact ⟨h1, .inr ⟨g, cap, cur, rfl, hg, (hb g rfl).trans hc, rest⟩⟩
theorem RowW.lt {v : Value} {l : List Int} {w : World} (h : RowW v l w) : ∀ k, v.ownBlock = some k → k < w.heap.size := fun k hk => (World.ownsRow.lt h k hk).2
theorem RowW.shape {v : Value} {l : List Int} {w : World} (h : RowW v l w) : ∃ o c, v = .slice o l.length c ∧ l.length ≤ c ∧ ∀ (j : Nat) (x : Int), l[j]? = some x → ∃ a, o = some a ∧ w.cell? (a.add j) = some (.int .u64 x) := by
  have h0 := h
  obtain ⟨h1, ⟨rfl, h2⟩ | ⟨g, cap, cur, rfl, hg, hc, hn, rest⟩⟩ := h
  · have : l = [] := List.eq_nil_of_length_eq_zero h2
    subst this
    exact ⟨none, 0, rfl, Nat.le_refl _, fun j s hs => by simp at hs⟩
  · refine ⟨_, cap, rfl, hn, fun j s hs => ⟨_, rfl, ?_⟩⟩
    exact h0.cells (g := g) rfl j _ (by simp [ws, hs])
theorem Arn.kept {g : Nat} {F G : Nat → Prop} {l : List Int} {n : Nat} {w w' : World} (h : Arn g F l n w) (hk : Kept G w w') (hd : ∀ k, F k → ¬ G k) : Arn g F l n w' := by
  obtain ⟨b, hB, hR, hne, hl, hn, f0, f1, f3⟩ := h
  have hb : ∀ k, F k → w'.heap[k]? = w.heap[k]? := fun k hf => hk.block k (f3 k hf) (hd k hf)
  exact ⟨b, hB.of_block (hb _ f0), hR.of_block (hb _ f1), hne, hl, hn, f0, f1, fun k hf => Nat.lt_of_lt_of_le (f3 k hf) hk.size⟩
theorem Mm.kept {g : Nat} {F G : Nat → Prop} {l : List Int} {n : Nat} {w w' : World} (h : Mm g F l n w) (hk : Kept G w w') (hd : ∀ k, F k → ¬ G k) : Mm g F l n w' := by
  obtain ⟨v, hB, hR, hne, hl, hn, f0, f1, f3⟩ := h
  have hb : ∀ k, F k → w'.heap[k]? = w.heap[k]? := fun k hf => hk.block k (f3 k hf) (hd k hf)
  exact ⟨v, hB.of_block (hb _ f0), hR.of_block (fun k e => hb k (f1 k e)), hne, hl, hn, f0, f1, fun k hf => Nat.lt_of_lt_of_le (f3 k hf) hk.size⟩
theorem Arn.below {g : Nat} {F : Nat → Prop} {l : List Int} {n : Nat} {w w' : World} (h : Arn g F l n w) (hk : Below w.heap.size w w') : Arn g F l n w' := h.kept (G := fun _ => False) (Kept.of_below hk) (fun _ _ => id)
theorem Mm.below {g : Nat} {F : Nat → Prop} {l : List Int} {n : Nat} {w w' : World} (h : Mm g F l n w) (hk : Below w.heap.size w w') : Mm g F l n w' := h.kept (G := fun _ => False) (Kept.of_below hk) (fun _ _ => id)
theorem Arn.lt {g : Nat} {F : Nat → Prop} {l : List Int} {n : Nat} {w : World} (h : Arn g F l n w) : ∀ k, F k → k < w.heap.size := by
  obtain ⟨b, hB, hR, hne, hl, hn, f0, f1, f3⟩ := h
  exact f3
theorem Mm.lt {g : Nat} {F : Nat → Prop} {l : List Int} {n : Nat} {w : World} (h : Mm g F l n w) : ∀ k, F k → k < w.heap.size := by
  obtain ⟨b, hB, hR, hne, hl, hn, f0, f1, f3⟩ := h
  exact f3
theorem addr_add (g o j : Nat) : (⟨g, o, none⟩ : Addr).add j = ⟨g, o + j, none⟩ := by
  unfold Addr.add; split
  · rename_i h; subst h; rfl
  · rfl
theorem infoW : (Try.prog.info? 28).map (fun i => (i.zero, i.size, i.bytes)) = some (some (.int .u64 0), 1, 8) := by kernel_rfl
theorem infoI : (Try.prog.info? 3).map (fun i => (i.zero, i.size, i.bytes)) = some (some (.int .i64 0), 1, 8) := by kernel_rfl
theorem info_parts {t : TypeId} {z : Value} {k b : Nat} (h : (Try.prog.info? t).map (fun i => (i.zero, i.size, i.bytes)) = some (some z, k, b)) : ∃ i, Try.prog.info? t = some i ∧ i.zero = some z ∧ i.size = k ∧ i.bytes = b := by
  cases hi : Try.prog.info? t with
  | none => rw [hi] at h; simp at h
  | some i =>
    rw [hi] at h
    simp only [Option.map_some, Option.some.injEq, Prod.mk.injEq] at h
    exact ⟨i, rfl, h.1, h.2.1, h.2.2⟩
/-- append(s, make([]Word, k)...): so many noughts behind what there is -/
theorem append_zeros (w : World) (ty : TypeId) (v : Value) (l : List Int) (k : Nat) (hown : RowW v l w) (hk : l.length + k ≤ 2000000) :
    ∃ v' w', (Builtin.append_ #[35, 3] ty #[v, .int .i64 (k : Int)]).run Try.prog w = .ok v' w' ∧ RowW v' (l ++ List.replicate k 0) w' ∧ w.grownBy w' v.ownBlock ∧ (v'.ownBlock = v.ownBlock ∨ v'.ownBlock = some w.heap.size) := by
  obtain ⟨i, hi, hz, hs, hb⟩ := info_parts infoW
  have hw : IntKind.i64.wrap (k : Int) = k := by rw [IntKind.wrap_i64]; omega
  have hw0 : IntKind.i64.wrap 0 = 0 := by rw [IntKind.wrap_i64]; omega
  have hneg : ¬ ((k : Int) < 0) := by omega
  have h48i : ¬ (281474976710656 < (k : Int) * (i.bytes : Int)) := by rw [hb]; omega
  have hzc : (Builtin.zeroCells (Value.int IntKind.u64 0).cells k).toList = ws (List.replicate k 0) := by
    simp [Builtin.zeroCells, ws, Value.cells]
    apply List.ext_getElem
    · simp
    · intro i h1 h2
      simp [Nat.mod_one]
  have hlen : (ws (l ++ List.replicate k 0)).length = (l ++ List.replicate k 0).length * 1 := by rw [ws_length, Nat.mul_one]
  have grown : ∀ (old : Nat), old < l.length + k → ∀ (row : Option Nat),
      RowW (.slice (some ⟨w.heap.size, 0, none⟩) (l.length + k) (grownCap w (l.length + k) old 28)) (l ++ List.replicate k 0) (w.drew.alloc (.cells ((ws l).toArray ++ Builtin.zeroCells (Value.int .u64 0).cells k ++ Builtin.zeroCells (Value.int .u64 0).cells (grownCap w (l.length + k) old 28 - (l.length + k))) 28)) ∧
      w.grownBy (w.drew.alloc (.cells ((ws l).toArray ++ Builtin.zeroCells (Value.int .u64 0).cells k ++ Builtin.zeroCells (Value.int .u64 0).cells (grownCap w (l.length + k) old 28 - (l.length + k))) 28)) row := by
    intro old ho row
    have hge := grownCap_ge w (l.length + k) old 28
    have hcm : grownCap w (l.length + k) old 28 ≤ maxLen := grownCap_le_maxLen w (l.length + k) old _ (by unfold maxLen; omega)
    refine ⟨⟨hlen, .inr ⟨w.heap.size, _, _, by rw [List.length_append, List.length_replicate], Nat.zero_le _, heap_alloc_new w.drew _, by rw [List.length_append, List.length_replicate]; exact hge, hcm, ?_, ?_⟩⟩, ⟨rfl, rfl, rfl, by simp, fun q hq _ => by first | exact Go.heap_alloc_old w.drew _ q hq | exact heap_alloc_old w.drew _ hq⟩⟩
    · simp only [Array.size_append, List.size_toArray, size_zeroCells, ws_length]
      have : (Value.int IntKind.u64 0).cells.size = 1 := rfl
      rw [this]; omega
    · simp only [Array.toList_append, List.append_assoc, hzc]
      rw [← List.append_assoc, ← ws_append]
      have e : (l ++ List.replicate k 0).length * 1 = (ws (l ++ List.replicate k 0)).length := by rw [ws_length, Nat.mul_one]
      rw [e]
      exact List.take_left
  rcases hown.2 with ⟨rfl, h0⟩ | ⟨g, cap, cur, rfl, hbg, hg, hnc, hcm, hcs, htake⟩
  · have hl : l = [] := List.eq_nil_of_length_eq_zero h0
    subst hl
    by_cases hk0 : k = 0
    · subst hk0
      refine ⟨.slice none 0 0, w, ?_, World.ownsRow_nil _ _ _ _, ⟨rfl, rfl, rfl, Nat.le_refl _, fun _ _ _ => rfl⟩, Or.inl rfl⟩
      simp [Builtin.append_, run_underlying Try.underlying35, run_underlying Try.underlying3, sizeOf, typeInfo, hi, asInt, asIntOf, hw0]
    · have hr := Lib.run_append_grow_zeros (P := Try.prog) w 35 3 ty 28 i (.int .u64 0) .i64 .i64 Try.underlying35 Try.underlying3 hi hz none 0 0 [] (by simp [Builtin.firstCells]) k (by omega) (by omega) (by omega) (by omega) (by omega)
        (by rw [hb]; unfold Builtin.nextslicecap; simp; split <;> omega)
      have hgr := grown 0 (by simp; omega) (Value.ownBlock (.slice none 0 0))
      simp only [List.length_nil, Nat.zero_add] at hgr hr
      exact ⟨_, _, hr, hgr.1, hgr.2, Or.inr rfl⟩
  · by_cases hroom : l.length + k ≤ cap
    · have hcsz : cur.size = cap := by rw [hcs, Nat.mul_one]
      have hst := run_storeCells_at Try.prog g l.length 28 (ws (List.replicate k 0)) 0 cur w hg (by simp [ws_length]; omega) (ws_one _)
      simp only [Nat.add_zero] at hst
      have hk2 : (k : Int) ≤ 2000000 := by omega
      have hrun : (Builtin.append_ #[35, 3] ty #[.slice (some ⟨g, 0, none⟩) l.length cap, .int .i64 (k : Int)]).run Try.prog w =
          .ok (.slice (some ⟨g, 0, none⟩) (l.length + k) cap) (w.setRow g (cur.toList.take l.length ++ ws (List.replicate k 0) ++ cur.toList.drop (l.length + (ws (List.replicate k 0)).length)).toArray) := by
        by_cases hk0 : k = 0
        · subst hk0
          have hst2 : (storeCells ⟨g, l.length, none⟩ []).run Try.prog w = .ok () (w.setRow g (cur.toList.take l.length ++ ws (List.replicate 0 0) ++ cur.toList.drop (l.length + (ws (List.replicate 0 0)).length)).toArray) := hst
          simp [Builtin.append_, run_underlying Try.underlying35, run_underlying Try.underlying3, sizeOf, typeInfo, hi, asInt, asIntOf, hs, hnc, hw0, hst2, Addr.add_lit]
        · simp [Builtin.append_, run_underlying Try.underlying35, run_underlying Try.underlying3, sizeOf, typeInfo, hi, hz, zeroValue, asInt, asIntOf, hw, hneg, h48i, hs, hroom, hk0, Addr.add_lit, hzc, hst]
      refine ⟨_, _, hrun, ⟨hlen, .inr ⟨g, cap, _, by rw [List.length_append, List.length_replicate], hbg, setRow_heap w g cur _ _ _ hg, by rw [List.length_append, List.length_replicate]; exact hroom, hcm, ?_, ?_⟩⟩, ⟨rfl, rfl, rfl, by simp, fun k _ hk => setRow_other w g k _ (fun e => hk (by simp [Value.ownBlock, e]))⟩, Or.inl rfl⟩
      · simp only [List.size_toArray, List.length_append, List.length_take, List.length_drop, Array.length_toList, ws_length, List.length_replicate]
        omega
      · rw [Nat.mul_one] at htake
        rw [htake, ← ws_append]
        have e : (l ++ List.replicate k 0).length * 1 = (ws (l ++ List.replicate k 0)).length := by rw [ws_length, Nat.mul_one]
        rw [e]
        exact List.take_left
    · have holds : ∀ j u, (ws l)[j]? = some u → w.drew.cell? ((⟨g, 0, none⟩ : Addr).add j) = some u := hown.cells (g := g) rfl
      have hf := run_firstCells_some (P := Try.prog) w.drew i.size l.length ⟨g, 0, none⟩ l.length cap (ws l) (by rw [ws_length, hs, Nat.mul_one]) holds
      have hr := Lib.run_append_grow_zeros (P := Try.prog) w 35 3 ty 28 i (.int .u64 0) .i64 .i64 Try.underlying35 Try.underlying3 hi hz (some ⟨g, 0, none⟩) l.length cap (ws l) hf k (by omega) (by omega) (by omega) (by omega) (by rw [hb]; omega)
        (by have := growslice_fits (need := l.length + k) (old := cap) (bytes := i.bytes) (by omega) (by rw [hb]; omega); exact this)
      have hgr := grown cap (by omega) (Value.ownBlock (.slice (some ⟨g, 0, none⟩) l.length cap))
      exact ⟨_, _, hr, hgr.1, hgr.2, Or.inr rfl⟩
end Go.Proofs.Ytdabigekdnibhaa
