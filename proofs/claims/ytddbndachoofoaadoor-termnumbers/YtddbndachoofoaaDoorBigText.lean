/- Text of package big. -/
import Derived.Test.YtddbndachoofoaaDoorBigRev
import Derived.Deep.LoopGhost
import Derived.Deep.AppendLies
import Derived.Laws.IdiomStrings
namespace Go.Proofs.YtddbndachoofoaaDoor
open Go.ChangeShapes Go.WideShapes Go.ChangeAt Go.RowKit
set_option linter.unusedSimpArgs false
set_option linter.unusedVariables false
/-- bytes in memory of the call's own, from B on -/
def FrB (B : Nat) (v : Value) (l : List Nat) (w : World) : Prop := w.ownsRow B 5 1 v l.length (l.map fun (x : Nat) => Value.int .u8 (x : Int))
theorem FrB.nil (B : Nat) (w : World) : FrB B (.slice none 0 0) [] w := World.ownsRow_nil _ _ _ _
theorem FrB.own {B g c : Nat} {l : List Nat} {w : World} {n : Nat} (h : FrB B (.slice (some ⟨g, 0, none⟩) n c) l w) : B ≤ g ∧ g < w.heap.size ∧ OwnB g l w ∧ l.length ≤ c := by
  rcases h.2 with ⟨hv, h0⟩ | ⟨g', cap, cur, hv, hb, hg, hnc, hcm, hcs, htake⟩
  · simp at hv
  · simp only [Value.slice.injEq, Option.some.injEq, Addr.mk.injEq, and_true] at hv
    obtain ⟨rfl, rfl, rfl⟩ := hv
    refine ⟨hb, (Array.getElem?_eq_some_iff.1 hg).1, ⟨fun j x hj => ?_, fun j => ?_⟩, hnc⟩
    · have hc : w.cell? ⟨g, j, none⟩ = cur[j]? := by simp [World.cell?, hg]
      rw [hc, ← Array.getElem?_toList]
      have hj' : j < l.length := (List.getElem?_eq_some_iff.1 hj).1
      have := congrArg (·[j]?) htake
      simp only [List.getElem?_take, List.getElem?_map, hj, Option.map_some, Nat.mul_one, if_pos hj'] at this
      exact this
    · simp [World.frozen?, hg]
theorem FrB.shape {B : Nat} {v : Value} {l : List Nat} {w : World} (h : FrB B v l w) : (v = .slice none 0 0 ∧ l = []) ∨ ∃ g c, v = .slice (some ⟨g, 0, none⟩) l.length c := by
  rcases h.2 with ⟨hv, h0⟩ | ⟨g, cap, cur, hv, _⟩
  · exact .inl ⟨hv, List.eq_nil_of_length_eq_zero h0⟩
  · exact .inr ⟨g, cap, hv⟩
theorem FrB.of_blocks {B : Nat} {v : Value} {l : List Nat} {w w' : World} (h : FrB B v l w) (hb : ∀ k, B ≤ k → k < w.heap.size → w'.heap[k]? = w.heap[k]?) : FrB B v l w' := by
  refine ⟨h.1, ?_⟩
  rcases h.2 with hn | ⟨g, cap, cur, hv, hbg, hg, rest⟩
  · exact .inl hn
  · exact .inr ⟨g, cap, cur, hv, hbg, (hb g hbg (Array.getElem?_eq_some_iff.1 hg).1).trans hg, rest⟩
theorem FrB.below {B : Nat} {v : Value} {l : List Nat} {w w' : World} (h : FrB B v l w) (hb : Below w.heap.size w w') : FrB B v l w' := h.of_blocks fun k _ hk => hb.block k hk
theorem FrB.only {B g : Nat} {v : Value} {l : List Nat} {w w' : World} (h : FrB B v l w) (ho : Only g w w') (hg : g < B) : FrB B v l w' := h.of_blocks fun k hk _ => ho.2.2 k (by omega)
theorem FrB.take {B g c n k : Nat} {l : List Nat} {w : World} (h : FrB B (.slice (some ⟨g, 0, none⟩) n c) l w) (hk : k ≤ l.length) : FrB B (.slice (some ⟨g, 0, none⟩) k c) (l.take k) w := by
  rcases h.2 with ⟨hv, h0⟩ | ⟨g', cap, cur, hv, hb, hg, hnc, hcm, hcs, htake⟩
  · simp at hv
  · simp only [Value.slice.injEq, Option.some.injEq, Addr.mk.injEq, and_true] at hv
    obtain ⟨rfl, rfl, rfl⟩ := hv
    refine ⟨by simp, .inr ⟨g, c, cur, by simp [Nat.min_eq_left hk], hb, hg, by simp; omega, hcm, hcs, ?_⟩⟩
    have := congrArg (List.take k) htake
    rw [List.take_take] at this
    simp only [Nat.mul_one, List.length_take] at this ⊢
    rw [this, List.map_take]
/-- a struct whose first field is a bool is no row of bytes -/
theorem FrB.ne_box {B gb : Nat} {v : Value} {l : List Nat} {w : World} {b : Bool} {u : Value} (h : FrB B v l w) (hb : Box gb (.bool b) u w) (hn : v = .slice none 0 0 ∨ l ≠ []) : v.ownBlock ≠ some gb := by
  rcases h.shape with ⟨rfl, _⟩ | ⟨g, c, rfl⟩
  · simp [Value.ownBlock]
  · obtain ⟨h1, h2, h3, h4⟩ := h.own
    intro e
    simp only [Value.ownBlock, Option.some.injEq] at e
    subst e
    rcases hn with hn | hn
    · simp at hn
    · cases l with
      | nil => exact hn rfl
      | cons x t =>
        have := h3.1 0 x (by simp)
        rw [hb.1] at this
        simp at this
theorem Box.grown {gb : Nat} {u v : Value} {w w' : World} {row : Option Nat} (h : Box gb u v w) (hg : w.grownBy w' row) (hne : row ≠ some gb) : Box gb u v w' := by
  have hlt : gb < w.heap.size := World.block_lt_of_cell? _ _ h.1
  have hn : some gb ≠ row := fun e => hne e.symm
  exact ⟨(hg.cell_far ⟨gb, 0, none⟩ hlt hn).trans h.1, (hg.cell_far ⟨gb, 1, none⟩ hlt hn).trans h.2.1, (hg.frozen_far ⟨gb, 0, none⟩ hlt hn).trans h.2.2.1, (hg.frozen_far ⟨gb, 1, none⟩ hlt hn).trans h.2.2.2⟩
theorem OwnB.string {g c : Nat} {l : List Nat} {w : World} (h : OwnB g l w) (hl : ∀ x ∈ l, x < 256) : (convert 27 9 (.slice (some ⟨g, 0, none⟩) l.length c)).run Tryd.prog w = .ok (.string ⟨(l.map UInt8.ofNat).toArray⟩) w := by
  have := run_convert_bytes_back (P := Tryd.prog) w 27 9 5 ⟨g, 0, none⟩ c (l.map UInt8.ofNat) Tryd.underlying27 Tryd.underlying5 Tryd.underlying9 (fun j hj => by
    rw [addr_add, Nat.zero_add]
    have hj' : j < l.length := by simpa using hj
    rw [h.1 j l[j] (by simp [hj'])]
    have := hl l[j] (List.getElem_mem hj')
    simp only [List.getElem_map, UInt8.toNat_ofNat']
    rw [Nat.mod_eq_of_lt (by omega)])
  rw [List.length_map] at this
  exact this
theorem Own.below' {g B : Nat} {l : List Nat} {w w' : World} (h : Own g l w) (hb : Below B w w') (hg : g < B) : Own g l w' :=
  ⟨fun j x hx => (hb.cell hg).trans (h.1 j x hx), fun j => by rw [World.frozen?_of_block (a := ⟨g, j, none⟩) (hb.block g hg)]; exact h.2 j⟩
/-- a number's digits -/
def txtN (Z : Int) : List Nat := if Z = 0 then [48] else (((glim 10 Z.natAbs).map fun d => 48 + d) ++ (if Z < 0 then [45] else [])).reverse
def txt (Z : Int) : List UInt8 := (txtN Z).map UInt8.ofNat
theorem lm10 {ds : List Nat} (h : Lm 10 ds) : ∀ x ∈ ds.map (fun d => 48 + d), x < 256 := fun x hx => by
  obtain ⟨d, hd, rfl⟩ := List.mem_map.1 hx
  have := h d hd; omega
theorem len_bound {s N M K : Nat} (hN : 0 < N) (h : 10 ^ s * N ≤ M) (hM : M < 4294967296 ^ K) : s < 32 * K + 1 := by
  have h1 : 10 ^ s * 1 ≤ 10 ^ s * N := Nat.mul_le_mul_left _ hN
  have h2 : (2 : Nat) ^ s ≤ 10 ^ s := Nat.pow_le_pow_left (by omega) s
  have h3 : (4294967296 : Nat) ^ K = 2 ^ (32 * K) := by rw [Nat.pow_mul]
  have h4 : (2 : Nat) ^ s < 2 ^ (32 * K) := by omega
  have := (Nat.pow_lt_pow_iff_right (by omega : 1 < 2)).1 h4
  omega
theorem ten_step {S p low N : Nat} {M : Nat} (h : S + p * N = M) (hl : N % 1000000000 = low) : S + p * low + p * 1000000000 * (N / 1000000000) = M := by
  rw [← h, Nat.add_assoc, Nat.mul_assoc, ← Nat.mul_add, ← hl, Nat.mod_add_div]
theorem view_raw2 (neg : Bool) (ao : Option Addr) (cap n : Nat) (l : List Nat) (w : World) (hn : l.length = n) (hl : Lm 4294967296 l) (hlen : l.length ≤ 1000000) (hcap : l.length ≤ cap) (h : Lies ao l w) :
    Calls Tryd.prog 57 #[.agg #[.bool neg, .slice ao n cap]] w fun e w' => ∃ ao' cap', e = .returned (.agg #[.bool (neg && decide (gval 4294967296 l ≠ 0)), .slice ao' (glim 4294967296 (gval 4294967296 l)).length cap']) ∧ (gval 4294967296 l = 0 → ao' = none ∧ cap' = 0) ∧ (gval 4294967296 l ≠ 0 → ao' = ao ∧ cap' = cap) ∧ Lies ao' (glim 4294967296 (gval 4294967296 l)) w ∧ Below w.heap.size w w' := by
  subst hn; exact view_raw neg ao cap l w hl hlen hcap h
theorem OwnB.string2 {g c n : Nat} {l : List Nat} {w : World} (h : OwnB g l w) (hn : l.length = n) (hl : ∀ x ∈ l, x < 256) : (convert 27 9 (.slice (some ⟨g, 0, none⟩) n c)).run Tryd.prog w = .ok (.string ⟨(l.map UInt8.ofNat).toArray⟩) w := by
  subst hn; exact h.string hl
end Go.Proofs.YtddbndachoofoaaDoor
