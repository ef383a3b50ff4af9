/- Texts of mine, one behind the other: BigMath, BigKit, BigSum, BigAdd, BigSub, BigMul, BigOf, BigShrink, BigRev. -/
import Derived.WalkKit
import Derived.ProofKit
import Derived.OpenShut
import Derived.Laws.BitsAllLaws
import Derived.Test.YtlojfmlaookpmaaGreatDoorRows
import Derived.Below
import Derived.Deep.OwnRows
import Derived.Deep.QuietTactic
import Derived.BigQuiet
import Derived.Deep.RegionWith
import Derived.Deep.RegionHeld3
import Derived.Deep.CutRange
import Derived.Laws.AppendOwn
import Derived.Laws.AppendOwnNone
import Derived.Lib.SliceRun
import Derived.BigRegion
set_option linter.unusedSimpArgs false
set_option linter.unusedVariables false
set_option maxRecDepth 2000
namespace Go.Proofs.YtlojfmlaookpmaaGreatDoor
def gval (b : Nat) : List Nat → Nat
 | [] => 0
 | x :: t => x + b * gval b t
def glim (b n : Nat) : List Nat :=
 if _h : b ≤ 1 ∨ n = 0 then [] else n % b :: glim b (n / b)
termination_by n
decreasing_by exact Nat.div_lt_self (by omega) (by omega)
def Lm (b : Nat) (l : List Nat) : Prop := ∀ x ∈ l, x < b
theorem Lm.nil (b : Nat) : Lm b [] := fun _ h => by simp at h
theorem Lm.cons {b x : Nat} {l : List Nat} (hx : x < b) (h : Lm b l) : Lm b (x :: l) := fun y hy => by
 rcases List.mem_cons.1 hy with rfl | hy
 · exact hx
 · exact h y hy
theorem Lm.tail {b x : Nat} {l : List Nat} (h : Lm b (x :: l)) : Lm b l := fun y hy => h y (List.mem_cons_of_mem _ hy)
theorem Lm.head {b x : Nat} {l : List Nat} (h : Lm b (x :: l)) : x < b := h x (List.mem_cons_self ..)
theorem Lm.append {b : Nat} {l m : List Nat} (h : Lm b l) (h' : Lm b m) : Lm b (l ++ m) := fun y hy => by
 rcases List.mem_append.1 hy with hy | hy
 · exact h y hy
 · exact h' y hy
theorem Lm.take {b : Nat} {l : List Nat} (h : Lm b l) (k : Nat) : Lm b (l.take k) := fun y hy => h y (List.mem_of_mem_take hy)
theorem Lm.drop {b : Nat} {l : List Nat} (h : Lm b l) (k : Nat) : Lm b (l.drop k) := fun y hy => h y (List.mem_of_mem_drop hy)
theorem Lm.set {b : Nat} {l : List Nat} (h : Lm b l) (k x : Nat) (hx : x < b) : Lm b (l.set k x) := fun y hy => by
 rcases List.mem_or_eq_of_mem_set hy with hy | rfl
 · exact h y hy
 · exact hx
theorem Lm.at {b : Nat} {l : List Nat} (h : Lm b l) {k x : Nat} (hx : l[k]? = some x) : x < b := h x (List.mem_of_getElem? hx)
theorem Lm.replicate {b : Nat} (hb : 0 < b) (n : Nat) : Lm b (List.replicate n 0) := fun y hy => by
 rw [(List.mem_replicate.1 hy).2]; exact hb
theorem gval_append (b : Nat) : ∀ l m : List Nat, gval b (l ++ m) = gval b l + b ^ l.length * gval b m
 | [], m => by simp [gval]
 | x :: t, m => by
   simp only [List.cons_append, gval, List.length_cons]
   rw [gval_append b t m]
   grind
theorem gval_lt {b : Nat} : ∀ {l : List Nat}, Lm b l → gval b l < b ^ l.length
 | [], _ => by simp [gval]
 | x :: t, h => by
   have h1 := gval_lt h.tail
   have h2 := h.head
   simp only [gval, List.length_cons]
   have : b * (gval b t + 1) ≤ b * b ^ t.length := Nat.mul_le_mul_left _ h1
   rw [Nat.pow_succ, Nat.mul_comm (b ^ t.length) b]
   rw [Nat.mul_add] at this
   omega
theorem gval_zeros (b : Nat) : ∀ l : List Nat, (∀ x ∈ l, x = 0) → gval b l = 0
 | [], _ => rfl
 | x :: t, h => by
   rw [gval, gval_zeros b t (fun y hy => h y (List.mem_cons_of_mem _ hy)), h x (List.mem_cons_self ..)]
   simp
theorem gval_take_succ (b : Nat) {l : List Nat} {i x : Nat} (h : l[i]? = some x) : gval b (l.take (i + 1)) = gval b (l.take i) + b ^ i * x := by
 have hi : i < l.length := (List.getElem?_eq_some_iff.1 h).1
 have hx : l[i] = x := (List.getElem?_eq_some_iff.1 h).2
 rw [List.take_succ_eq_append_getElem hi, gval_append, hx]
 simp [gval, Nat.min_eq_left (Nat.le_of_lt hi)]
theorem gval_set_take (b : Nat) {l : List Nat} {i : Nat} (x : Nat) (h : i < l.length) : gval b ((l.set i x).take (i + 1)) = gval b (l.take i) + b ^ i * x := by
 rw [gval_take_succ b (x := x) (by simp [h])]
 rw [List.take_set_of_le (Nat.le_refl _)]
theorem gval_split (b k : Nat) (l : List Nat) (h : k ≤ l.length) : gval b l = gval b (l.take k) + b ^ k * gval b (l.drop k) := by
 have := gval_append b (l.take k) (l.drop k)
 rw [List.take_append_drop, List.length_take, Nat.min_eq_left h] at this
 exact this
theorem glim_zero (b : Nat) : glim b 0 = [] := by rw [glim]; simp
theorem glim_pos {b n : Nat} (hb : 1 < b) (hn : 0 < n) : glim b n = n % b :: glim b (n / b) := by
 rw [glim, dif_neg (by omega)]
theorem gval_glim {b : Nat} (hb : 1 < b) (n : Nat) : gval b (glim b n) = n := by
 induction n using Nat.strongRecOn with
 | ind n ih =>
   by_cases h : n = 0
   · subst h; rw [glim_zero]; rfl
   · rw [glim_pos hb (by omega), gval, ih _ (Nat.div_lt_self (by omega) hb)]
     exact Nat.mod_add_div n b
theorem lm_glim {b : Nat} (hb : 1 < b) (n : Nat) : Lm b (glim b n) := by
 induction n using Nat.strongRecOn with
 | ind n ih =>
   by_cases h : n = 0
   · subst h; rw [glim_zero]; exact Lm.nil _
   · rw [glim_pos hb (by omega)]
     exact Lm.cons (Nat.mod_lt _ (by omega)) (ih _ (Nat.div_lt_self (by omega) hb))
theorem glim_ne {b n : Nat} (hb : 1 < b) (hn : 0 < n) : glim b n ≠ [] := by rw [glim_pos hb hn]; simp
theorem glim_nil {b n : Nat} (hb : 1 < b) : glim b n = [] ↔ n = 0 := by
 constructor
 · intro h
   by_cases h0 : n = 0
   · exact h0
   · exact absurd h (glim_ne hb (by omega))
 · rintro rfl; exact glim_zero b
theorem glim_canon {b : Nat} (hb : 1 < b) : ∀ {l : List Nat}, Lm b l → (∀ x, l.getLast? = some x → x ≠ 0) → glim b (gval b l) = l
 | [], _, _ => glim_zero b
 | x :: t, h, hc => by
   have hx := h.head
   have hpos : 0 < gval b (x :: t) := by
     cases t with
     | nil =>
       have := hc x (by simp)
       simp [gval]; omega
     | cons y s =>
       have ih := glim_canon hb h.tail (fun z hz => hc z (by simpa using hz))
       have hv : 0 < gval b (y :: s) := by
         refine Nat.pos_of_ne_zero fun e => ?_
         rw [e, glim_zero] at ih; exact absurd ih (by simp)
       have : 0 < b * gval b (y :: s) := Nat.mul_pos (by omega) hv
       rw [gval]; omega
   have ih : glim b (gval b t) = t := by
     refine glim_canon hb h.tail fun z hz => hc z ?_
     cases t with
     | nil => simp at hz
     | cons y s => simpa using hz
   rw [glim_pos hb hpos]
   have e1 : gval b (x :: t) % b = x := by rw [gval, Nat.add_mul_mod_self_left]; exact Nat.mod_eq_of_lt hx
   have e2 : gval b (x :: t) / b = gval b t := by rw [gval, Nat.add_mul_div_left _ _ (by omega), Nat.div_eq_of_lt hx]; simp
   rw [e1, e2, ih]
theorem glim_take {b : Nat} (hb : 1 < b) {l : List Nat} {k : Nat} (h : Lm b l) (hk : k ≤ l.length) (hz : ∀ j x, k ≤ j → l[j]? = some x → x = 0) (ht : k = 0 ∨ ∃ x, l[k - 1]? = some x ∧ x ≠ 0) : glim b (gval b l) = l.take k := by
 have hd : gval b (l.drop k) = 0 := by
   refine gval_zeros b _ fun x hx => ?_
   obtain ⟨j, hj⟩ := List.getElem?_of_mem hx
   rw [List.getElem?_drop] at hj
   exact hz _ x (by omega) hj
 have hv : gval b l = gval b (l.take k) := by rw [gval_split b k l hk, hd]; simp
 rw [hv]
 refine glim_canon hb (h.take k) fun x hx => ?_
 rcases ht with rfl | ⟨y, hy, hy0⟩
 · simp at hx
 · rw [List.getLast?_eq_getElem?, List.length_take, Nat.min_eq_left hk] at hx
   have hk0 : 0 < k := by
     rcases Nat.eq_zero_or_pos k with rfl | h
     · simp at hx
     · exact h
   rw [List.getElem?_take_of_lt (by omega), hy] at hx
   injection hx with hx; omega
theorem glim_is_take : ∀ {l : List Nat}, Lm 4294967296 l → ∃ k, k ≤ l.length ∧ glim 4294967296 (gval 4294967296 l) = l.take k := by
 intro l
 have key : ∀ n, n ≤ l.length → Lm 4294967296 l → (∀ j x, n ≤ j → l[j]? = some x → x = 0) → ∃ k, k ≤ l.length ∧ glim 4294967296 (gval 4294967296 l) = l.take k := by
   intro n
   induction n with
   | zero => intro _ h hz; exact ⟨0, by omega, glim_take (by omega) h (by omega) hz (.inl rfl)⟩
   | succ n ih =>
     intro hn h hz
     by_cases hx : l[n]'(by omega) = 0
     · refine ih (by omega) h fun j x hj hjx => ?_
       by_cases e : j = n
       · subst e; rw [List.getElem?_eq_getElem (by omega)] at hjx; injection hjx with hjx; omega
       · exact hz j x (by omega) hjx
     · exact ⟨n + 1, hn, glim_take (by omega) h hn hz (.inr ⟨l[n]'(by omega), by simp, hx⟩)⟩
 intro h
 exact key l.length (Nat.le_refl _) h fun j x hj hx => absurd (List.getElem?_eq_some_iff.1 hx).1 (by omega)
theorem glim_last {b : Nat} (hb : 1 < b) (n : Nat) (hn : 0 < n) : ∃ x, (glim b n)[(glim b n).length - 1]? = some x ∧ x ≠ 0 := by
 induction n using Nat.strongRecOn with
 | ind n ih =>
   by_cases h : n / b = 0
   · refine ⟨n % b, ?_, ?_⟩
     · rw [glim_pos hb hn, h, glim_zero]; rfl
     · rw [Nat.mod_eq_of_lt ((Nat.div_eq_zero_iff_lt (by omega)).1 h)]; omega
   · obtain ⟨x, hx, hx0⟩ := ih (n / b) (Nat.div_lt_self hn hb) (Nat.pos_of_ne_zero h)
     refine ⟨x, ?_, hx0⟩
     have hlen : 0 < (glim b (n / b)).length := List.length_pos_iff.2 (glim_ne hb (Nat.pos_of_ne_zero h))
     rw [glim_pos hb hn, List.length_cons]
     rw [show (glim b (n / b)).length + 1 - 1 = ((glim b (n / b)).length - 1) + 1 by omega, List.getElem?_cons_succ]
     exact hx
theorem glim_lt {b : Nat} (hb : 1 < b) (n : Nat) : n < b ^ (glim b n).length := by
 have := gval_lt (lm_glim hb n)
 rwa [gval_glim hb] at this
theorem glim_ge {b : Nat} (hb : 1 < b) {n : Nat} (hn : 0 < n) : b ^ ((glim b n).length - 1) ≤ n := by
 obtain ⟨x, hx, hx0⟩ := glim_last hb n hn
 have hlen : 0 < (glim b n).length := List.length_pos_iff.2 (glim_ne hb hn)
 have h := gval_take_succ b hx
 rw [show (glim b n).length - 1 + 1 = (glim b n).length by omega, List.take_length, gval_glim hb] at h
 have : b ^ ((glim b n).length - 1) * 1 ≤ b ^ ((glim b n).length - 1) * x := Nat.mul_le_mul_left _ (by omega)
 omega
theorem glim_len {b : Nat} (hb : 1 < b) (n k : Nat) : (glim b n).length ≤ k ↔ n < b ^ k := by
 constructor
 · intro h
   exact Nat.lt_of_lt_of_le (glim_lt hb n) (Nat.pow_le_pow_right (by omega) h)
 · intro h
   by_cases h0 : n = 0
   · subst h0; rw [glim_zero]; simp
   · have h1 := glim_ge hb (n := n) (by omega)
     have h2 : b ^ ((glim b n).length - 1) < b ^ k := Nat.lt_of_le_of_lt h1 h
     have := (Nat.pow_lt_pow_iff_right hb).1 h2
     omega
theorem glim_inj {b : Nat} (hb : 1 < b) {m n : Nat} (h : glim b m = glim b n) : m = n := by
 rw [← gval_glim hb m, h, gval_glim hb]
theorem gval_order {b : Nat} {l m : List Nat} {i x y : Nat} (hl : Lm b l) (hlen : l.length = m.length) (hd : l.drop (i + 1) = m.drop (i + 1)) (hx : l[i]? = some x) (hy : m[i]? = some y) (hxy : x < y) : gval b l < gval b m := by
 have hi : i < l.length := (List.getElem?_eq_some_iff.1 hx).1
 rw [gval_split b (i + 1) l (by omega), gval_split b (i + 1) m (by omega), hd, gval_take_succ b hx, gval_take_succ b hy]
 have h1 := gval_lt (hl.take i)
 rw [List.length_take, Nat.min_eq_left (by omega)] at h1
 have : b ^ i * (x + 1) ≤ b ^ i * y := Nat.mul_le_mul_left _ hxy
 rw [Nat.mul_add] at this
 omega
theorem glim_len_lt {b : Nat} (hb : 1 < b) {m n : Nat} (h : (glim b m).length < (glim b n).length) : m < n := by
 have hn : 0 < n := by
   refine Nat.pos_of_ne_zero fun e => ?_
   subst e; rw [glim_zero] at h; simp at h
 have h1 := glim_lt hb m
 have h2 := glim_ge hb hn
 have : b ^ (glim b m).length ≤ b ^ ((glim b n).length - 1) := Nat.pow_le_pow_right (by omega) (by omega)
 omega
open Go.ChangeShapes Go.WideShapes Go.ChangeAt Go.RowKit
def Hid (p : Prop) : Prop := p
theorem hid {p : Prop} (h : p) : Hid p := h
theorem Hid.out {p : Prop} (h : Hid p) : p := h
def Lies (ao : Option Addr) (l : List Nat) (w : World) : Prop := ∀ (j x : Nat), l[j]? = some x → ∃ a, ao = some a ∧ w.cell? (a.add j) = some (.int .u32 (x : Int))
theorem Lies.below {ao : Option Addr} {l : List Nat} {w w' : World} (h : Lies ao l w) (hb : Below w.heap.size w w') : Lies ao l w' := fun j x hx => by
 obtain ⟨a, ha, hc⟩ := h j x hx
 exact ⟨a, ha, (hb.cell (World.block_lt_of_cell? _ _ hc)).trans hc⟩
theorem below_le {B C : Nat} {w w' : World} (h : Below C w w') (hBC : B ≤ C) : Below B w w' := ⟨h.os, h.tape, h.output, h.size, fun k hk => h.block k (by omega)⟩
theorem below_and {B : Nat} {w w' w'' : World} (h : Below B w w') (hB : B ≤ w.heap.size) (h' : Below w'.heap.size w' w'') : Below B w w'' := h.trans (below_le h' (Nat.le_trans hB h.size))
theorem info32u : (Tryz.prog.info? 133).map (fun i => (i.zero, i.size, i.bytes)) = some (some (.int .u32 0), 1, 4) := by kernel_rfl
theorem info8 : (Tryz.prog.info? 5).map (fun i => (i.zero, i.size, i.bytes)) = some (some (.int .u8 0), 1, 1) := by kernel_rfl
theorem info_parts {t : TypeId} {z : Value} {k b : Nat} (h : (Tryz.prog.info? t).map (fun i => (i.zero, i.size, i.bytes)) = some (some z, k, b)) : ∃ i, Tryz.prog.info? t = some i ∧ i.zero = some z ∧ i.size = k ∧ i.bytes = b := by
 cases hi : Tryz.prog.info? t with
 | none => rw [hi] at h; simp at h
 | some i =>
   rw [hi] at h
   simp only [Option.map_some, Option.some.injEq, Prod.mk.injEq] at h
   exact ⟨i, rfl, h.1, h.2.1, h.2.2⟩
def Own (g : Nat) (l : List Nat) (w : World) : Prop := (∀ (j x : Nat), l[j]? = some x → w.cell? ⟨g, j, none⟩ = some (.int .u32 (x : Int))) ∧ ∀ j, w.frozen? ⟨g, j, none⟩ = false
theorem addr_add (g o j : Nat) : (⟨g, o, none⟩ : Addr).add j = ⟨g, o + j, none⟩ := by
 unfold Addr.add; split
 · rename_i h; subst h; rfl
 · rfl
theorem Own.lies {g : Nat} {l : List Nat} {w : World} (h : Own g l w) : Lies (some ⟨g, 0, none⟩) l w := fun j x hx => ⟨_, rfl, by rw [addr_add, Nat.zero_add]; exact h.1 j x hx⟩
theorem Own.below {g : Nat} {l : List Nat} {w w' : World} (h : Own g l w) (hb : Below w.heap.size w w') (hg : g < w.heap.size) : Own g l w' :=
 ⟨fun j x hx => (hb.cell hg).trans (h.1 j x hx), fun j => by rw [World.frozen?_of_block (a := ⟨g, j, none⟩) (hb.block g hg)]; exact h.2 j⟩
theorem Own.set {g : Nat} {l : List Nat} {w : World} (h : Own g l w) {j : Nat} (x : Nat) (hj : j < l.length) : Own g (l.set j x) (w.setCell ⟨g, j, none⟩ (.int .u32 (x : Int))) := by
 have hc := h.1 j l[j] (by simp [hj])
 refine ⟨fun i y hy => ?_, fun i => ?_⟩
 · by_cases hij : j = i
   · subst hij
     rw [List.getElem?_set_self hj] at hy
     injection hy with hy; subst hy
     exact World.cell?_setCell_same _ _ _ hc
   · rw [List.getElem?_set_ne hij] at hy
     rw [World.cell?_setCell_other w ⟨g, j, none⟩ ⟨g, i, none⟩ _ (by simp [hij])]
     exact h.1 i y hy
 · have := World.frozen?_setCells g [Value.int .u32 (x : Int)] j w ⟨g, i, none⟩
   exact this.trans (h.2 i)
theorem Own.take {g : Nat} {l : List Nat} {w : World} (h : Own g l w) (k : Nat) : Own g (l.take k) w := by
 refine ⟨fun j x hx => h.1 j x ?_, h.2⟩
 rw [List.getElem?_take] at hx
 split at hx
 · exact hx
 · simp at hx
theorem Own.made (n : Nat) (w : World) : Own w.heap.size (List.replicate n 0) (w.alloc (.cells (madeCells #[.int .u32 0] n) 133)) := by
 refine ⟨fun j x hx => ?_, fun j => ?_⟩
 · rw [World.cell?_alloc_mark]
   rw [List.getElem?_replicate] at hx
   split at hx
   · rename_i hj
     injection hx with hx; subst hx
     have hsz : (madeCells #[Value.int .u32 0] n).size = n := size_madeCells _ _
     rw [Array.getElem?_eq_getElem (by omega)]
     simp [madeCells, Nat.mod_one]
   · simp at hx
 · rw [World.frozen?_alloc_mark]; simp
theorem Lies.take {ao : Option Addr} {l : List Nat} {w : World} (h : Lies ao l w) (k : Nat) : Lies ao (l.take k) w := fun j x hx => by
 rw [List.getElem?_take] at hx
 split at hx
 · exact h j x hx
 · simp at hx
def sv (neg : Bool) (n : Nat) : Int := if neg then -(n : Int) else (n : Int)
def IsN (v : Value) (Z : Int) (K : Nat) (w : World) : Prop := ∃ (neg : Bool) (o : Option Addr) (l : List Nat) (c : Nat), v = .agg #[.bool neg, .slice o l.length c] ∧ Lies o l w ∧ l.length ≤ c ∧ Lm 4294967296 l ∧ sv neg (gval 4294967296 l) = Z ∧ l.length ≤ K
def IsC (v : Value) (Z : Int) (K : Nat) (w : World) : Prop := ∃ (o : Option Addr) (c : Nat), v = .agg #[.bool (decide (Z < 0)), .slice o (glim 4294967296 Z.natAbs).length c] ∧ Lies o (glim 4294967296 Z.natAbs) w ∧ (glim 4294967296 Z.natAbs).length ≤ c ∧ (glim 4294967296 Z.natAbs).length ≤ K
theorem IsC.isN {v : Value} {Z : Int} {K : Nat} {w : World} (h : IsC v Z K w) : IsN v Z K w := by
 obtain ⟨o, c, rfl, hL, hc, hK⟩ := h
 refine ⟨_, o, _, c, rfl, hL, hc, lm_glim (by omega) _, ?_, hK⟩
 rw [gval_glim (by omega)]
 unfold sv
 by_cases hz : Z < 0
 · simp only [hz, decide_true, if_true]; omega
 · simp only [hz, decide_false, Bool.false_eq_true, if_false]; omega
theorem IsN.below {v : Value} {Z : Int} {K : Nat} {w w' : World} (h : IsN v Z K w) (hb : Below w.heap.size w w') : IsN v Z K w' := by
 obtain ⟨neg, o, l, c, rfl, hL, rest⟩ := h
 exact ⟨neg, o, l, c, rfl, hL.below hb, rest⟩
theorem IsC.below {v : Value} {Z : Int} {K : Nat} {w w' : World} (h : IsC v Z K w) (hb : Below w.heap.size w w') : IsC v Z K w' := by
 obtain ⟨o, c, rfl, hL, rest⟩ := h
 exact ⟨o, c, rfl, hL.below hb, rest⟩
theorem IsC.mono {v : Value} {Z : Int} {K K' : Nat} {w : World} (h : IsC v Z K w) (hk : K ≤ K') : IsC v Z K' w := by
 obtain ⟨o, c, rfl, hL, hc, hK⟩ := h
 exact ⟨o, c, rfl, hL, hc, by omega⟩
theorem isC_of {neg : Bool} {n : Nat} {o : Option Addr} {c K : Nat} {w : World} {Z : Int} (hz : sv neg n = Z) (hL : Lies o (glim 4294967296 n) w) (hc : (glim 4294967296 n).length ≤ c) (hK : (glim 4294967296 n).length ≤ K) :
   IsC (.agg #[.bool (neg && decide (n ≠ 0)), .slice o (glim 4294967296 n).length c]) Z K w := by
 have e : Z.natAbs = n := by subst hz; unfold sv; cases neg <;> simp
 have e2 : (neg && decide (n ≠ 0)) = decide (Z < 0) := by
   subst hz; unfold sv
   cases neg
   · simp
   · by_cases hn : n = 0 <;> simp [hn]; omega
 refine ⟨o, c, ?_, ?_, ?_, ?_⟩
 · rw [e2, e]
 all_goals rw [e]; assumption
theorem gval_len {l : List Nat} (h : Lm 4294967296 l) : (glim 4294967296 (gval 4294967296 l)).length ≤ l.length := (glim_len (by omega) _ _).2 (gval_lt h)
set_option maxHeartbeats 1000000 in
theorem view_raw (neg : Bool) (ao : Option Addr) (cap : Nat) (l : List Nat) (w : World) (hl : Lm 4294967296 l) (hlen : l.length ≤ 1000000) (hcap : l.length ≤ cap) (h : Lies ao l w) :
   Calls Tryz.prog 105 #[.agg #[.bool neg, .slice ao l.length cap]] w fun e w' => ∃ ao' cap', e = .returned (.agg #[.bool (neg && decide (gval 4294967296 l ≠ 0)), .slice ao' (glim 4294967296 (gval 4294967296 l)).length cap']) ∧ (gval 4294967296 l = 0 → ao' = none ∧ cap' = 0) ∧ (gval 4294967296 l ≠ 0 → ao' = ao ∧ cap' = cap) ∧ Lies ao' (glim 4294967296 (gval 4294967296 l)) w ∧ Below w.heap.size w w' := by
 go_enter Tryz.func105, Tryz.ntmps105
 go_wp2
 go_loopw [3] (fun v wr => ∃ k : Nat, v = .int .i64 (k : Int) ∧ k ≤ l.length ∧ wr = ((w.alloc (Obj.cells #[Value.bool neg, Value.slice ao l.length cap] 117)).alloc (Obj.cells #[Value.bool false, Value.slice none 0 0] 117)) ∧ Hid (∀ j x, k ≤ j → l[j]? = some x → x = 0)) (fun v _ => (intOf v).toNat)
 case atStart => exact ⟨l.length, rfl, Nat.le_refl _, rfl, hid fun j x hj hx => absurd (List.getElem?_eq_some_iff.1 hx).1 (by omega)⟩
 case round =>
   obtain ⟨k, rfl, hk, rfl, hH⟩ := hrel
   by_cases h0 : k = 0
   · subst h0
     have hg : Hid (gval 4294967296 l = 0) := hid (gval_zeros _ _ fun x hx => by
       obtain ⟨j, hj⟩ := List.getElem?_of_mem hx
       exact hH.out j x (Nat.zero_le _) hj)
     go_wp2
     refine bodyPost_ret (v := .agg #[.bool false, .slice none 0 0]) (by simp [results, Tryz.results105, go_sem]) rfl ⟨none, 0, ?_, fun _ => ⟨rfl, rfl⟩, fun e => absurd hg.out e, ?_, ?_⟩
     · rw [hg.out, glim_zero]; simp
     · rw [hg.out, glim_zero]; intro j x hx; simp at hx
     · exact ((Below.refl _ w).alloc (Nat.le_refl _) _).alloc (by simp) _
   · obtain ⟨m, rfl⟩ : ∃ m, k = m + 1 := ⟨k - 1, by omega⟩
     obtain ⟨x, hx⟩ : ∃ x, l[m]? = some x := ⟨l[m]'(by omega), by simp⟩
     obtain ⟨a, rfl, hc⟩ := h m x hx
     have e1 : (((m + 1 : Nat) : Int) - 1) = (m : Int) := by omega
     have hml : (m : Int) < (l.length : Int) := by omega
     have hpos : (0 : Int) < ((m + 1 : Nat) : Int) := by omega
     have cx : ((w.alloc (Obj.cells #[Value.bool neg, Value.slice (some a) l.length cap] 117)).alloc (Obj.cells #[Value.bool false, Value.slice none 0 0] 117)).cell? (a.add m) = some (.int .u32 (x : Int)) :=
       ((((Below.refl w.heap.size w).alloc (Nat.le_refl _) _).alloc (by simp) _).cell (World.block_lt_of_cell? _ _ hc)).trans hc
     by_cases hx0 : x = 0
     · subst hx0
       go_wp2
       go_roundw
       case rel =>
         refine ⟨m, by go_num, by omega, trivial, hid fun j y hj hy => ?_⟩
         by_cases hjm : j = m
         · subst hjm; rw [hx] at hy; injection hy with hy; exact hy.symm
         · exact hH.out j y (by omega) hy
       case measure => simp [intOf]
     · have hxz : ((x : Int) == 0) = false := by simp only [beq_eq_false_iff_ne, ne_eq]; omega
       have hmc : ((m + 1 : Nat) : Int) ≤ (cap : Int) := by omega
       have hne : Hid (gval 4294967296 l ≠ 0) := hid fun e => by
         have h1 := gval_split 4294967296 (m + 1) l hk
         rw [gval_take_succ _ hx] at h1
         have : 0 < 4294967296 ^ m * x := Nat.mul_pos (Nat.pow_pos (by omega)) (by omega)
         omega
       have hgl : Hid (glim 4294967296 (gval 4294967296 l) = l.take (m + 1)) := hid (glim_take (by omega) hl hk hH.out (.inr ⟨x, by simpa using hx, hx0⟩))
       go_wp2
       clear hxz hpos e1 hml cx
       go_region
       all_goals go_wp2
       refine bodyPost_ret (v := .agg #[.bool neg, .slice (some a) (m + 1) cap]) (by simp [results, Tryz.results105, go_sem]) rfl ⟨some a, cap, ?_, fun e => absurd e hne.out, fun _ => ⟨rfl, rfl⟩, ?_, ?_⟩
       · have hz := hne.out
         rw [hgl.out, List.length_take, Nat.min_eq_left hk]; simp [hz]
       · rw [hgl.out]; intro j y hy
         rw [List.getElem?_take] at hy
         split at hy
         · exact h j y hy
         · simp at hy
       · exact (((Below.refl _ w).alloc (Nat.le_refl _) _).alloc (by simp) _).drew
theorem view_w (v : Value) (Z : Int) (K : Nat) (w : World) (hK : K ≤ 1000000) (h : IsN v Z K w) :
   Calls Tryz.prog 105 #[v] w fun e w' => ∃ v', e = .returned v' ∧ (∀ u, IsN v Z K u → IsC v' Z K u) ∧ Below w.heap.size w w' := by
 obtain ⟨neg, o, l, c, rfl, hL, hc, hm, hs, hk⟩ := h
 refine (view_raw neg o c l w hm (by omega) hc hL).mono ?_
 rintro e w' ⟨ao', cap', rfl, h0, h1, h2, h3⟩
 have hle := gval_len hm
 refine ⟨_, rfl, fun u hu => ?_, h3⟩
 refine isC_of hs ?_ ?_ (by omega)
 · by_cases hz : gval 4294967296 l = 0
   · rw [hz, glim_zero]; intro j x hx; simp at hx
   · rw [(h1 hz).1]
     obtain ⟨neg', o', l', c', e1, hL', hc', hm', hs', hk'⟩ := hu
     simp only [Value.agg.injEq, Array.mk.injEq, List.cons.injEq, Value.bool.injEq, Value.slice.injEq, and_true] at e1
     obtain ⟨rfl, rfl, hll, rfl⟩ := e1
     have hg : gval 4294967296 l' = gval 4294967296 l := by
       rw [← hs'] at hs; unfold sv at hs; cases neg <;> simp at hs <;> omega
     have ht : glim 4294967296 (gval 4294967296 l') = l'.take (glim 4294967296 (gval 4294967296 l')).length := by
       obtain ⟨k, hk1, hk2⟩ := glim_is_take hm'
       rw [hk2, List.length_take]
       congr 1; omega
     rw [← hg, ht]
     exact hL'.take _
 · by_cases hz : gval 4294967296 l = 0
   · rw [hz, glim_zero]; simp
   · rw [(h1 hz).2]; omega
def Box (g : Nat) (u v : Value) (w : World) : Prop := w.cell? ⟨g, 0, none⟩ = some u ∧ w.cell? ⟨g, 1, none⟩ = some v ∧ w.frozen? ⟨g, 0, none⟩ = false ∧ w.frozen? ⟨g, 1, none⟩ = false
theorem Box.below {g B : Nat} {u v : Value} {w w' : World} (h : Box g u v w) (hb : Below B w w') (hg : g < B) : Box g u v w' :=
 ⟨(hb.cell hg).trans h.1, (hb.cell hg).trans h.2.1, (World.frozen?_of_block (a := ⟨g, 0, none⟩) (hb.block g hg)).trans h.2.2.1, (World.frozen?_of_block (a := ⟨g, 1, none⟩) (hb.block g hg)).trans h.2.2.2⟩
theorem Box.new (w : World) (u v : Value) (t : TypeId) : Box w.heap.size u v (w.alloc (.cells #[u, v] t)) :=
 ⟨by rw [World.cell?_alloc_mark]; rfl, by rw [World.cell?_alloc_mark]; rfl, by rw [World.frozen?_alloc_mark]; simp, by rw [World.frozen?_alloc_mark]; simp⟩
theorem Box.alloc {g : Nat} {u v : Value} {w : World} (h : Box g u v w) (o : Obj) (hg : g < w.heap.size) : Box g u v (w.alloc o) := h.below ((Below.refl w.heap.size w).alloc (Nat.le_refl _) o) hg
theorem Box.drew {g : Nat} {u v : Value} {w : World} (h : Box g u v w) : Box g u v w.drew := h
theorem boxes3 (w : World) (a0 a1 b0 b1 c0 c1 : Value) (ta tb tc : TypeId) :
   Box w.heap.size a0 a1 (((w.alloc (.cells #[a0, a1] ta)).alloc (.cells #[b0, b1] tb)).alloc (.cells #[c0, c1] tc)) ∧ Box (w.heap.size + 1) b0 b1 (((w.alloc (.cells #[a0, a1] ta)).alloc (.cells #[b0, b1] tb)).alloc (.cells #[c0, c1] tc)) ∧ Box (w.heap.size + 1 + 1) c0 c1 (((w.alloc (.cells #[a0, a1] ta)).alloc (.cells #[b0, b1] tb)).alloc (.cells #[c0, c1] tc)) ∧ Below w.heap.size w (((w.alloc (.cells #[a0, a1] ta)).alloc (.cells #[b0, b1] tb)).alloc (.cells #[c0, c1] tc)) ∧ (((w.alloc (.cells #[a0, a1] ta)).alloc (.cells #[b0, b1] tb)).alloc (.cells #[c0, c1] tc)).heap.size = w.heap.size + 3 := by
 refine ⟨((Box.new w a0 a1 ta).alloc _ (by simp)).alloc _ (by simp; omega), ?_, ?_, (((Below.refl _ w).alloc (Nat.le_refl _) _).alloc (by simp) _).alloc (by simp; omega) _, by simp⟩
 · have := Box.new (w.alloc (.cells #[a0, a1] ta)) b0 b1 tb
   simp only [World.size_alloc] at this
   exact this.alloc _ (by simp)
 · have := Box.new ((w.alloc (.cells #[a0, a1] ta)).alloc (.cells #[b0, b1] tb)) c0 c1 tc
   simp only [World.size_alloc] at this
   exact this
theorem pow_step (i : Nat) : (4294967296 : Nat) ^ (i + 1) = 4294967296 ^ i * 4294967296 := Nat.pow_succ ..
theorem sum_step {P S T U c x y s : Nat} (hs : c + x + y = s) (h : S + P * c = T + U) : S + P * (s % 4294967296) + (P * 4294967296) * (s / 4294967296) = (T + P * x) + (U + P * y) := by
 have e : P * s = P * c + P * x + P * y := by rw [← hs, Nat.mul_add, Nat.mul_add]
 have e2 : P * s = P * (s % 4294967296) + (P * 4294967296) * (s / 4294967296) := by
   rw [Nat.mul_assoc, ← Nat.mul_add, Nat.mod_add_div]
 omega
theorem dif_sum {P S T U b t y x r q : Nat} (hb : b + y = t) (hr : r + t = x + 4294967296 * q) (h : S + U = T + P * b) : S + P * r + (U + P * y) = T + P * x + P * 4294967296 * q := by
 have e1 : P * t = P * b + P * y := by rw [← hb, Nat.mul_add]
 have e2 : P * r + P * t = P * x + P * 4294967296 * q := by rw [← Nat.mul_add, hr, Nat.mul_add, Nat.mul_assoc]
 omega
def cmpZ (x y : Int) : Int := if x < y then -1 else if y < x then 1 else 0
theorem cmpZ_lt {x y : Int} (h : x < y) : cmpZ x y = -1 := by unfold cmpZ; rw [if_pos h]
theorem cmpZ_gt {x y : Int} (h : y < x) : cmpZ x y = 1 := by unfold cmpZ; rw [if_neg (by omega), if_pos h]
theorem cmpZ_eq (x : Int) : cmpZ x x = 0 := by unfold cmpZ; rw [if_neg (by omega), if_neg (by omega)]
theorem glim_cmp_len {m n : Nat} (h : (glim 4294967296 m).length ≠ (glim 4294967296 n).length) : cmpZ (m : Int) (n : Int) = cmpZ ((glim 4294967296 m).length : Int) ((glim 4294967296 n).length : Int) := by
 rcases Nat.lt_or_gt_of_ne h with h | h
 · have := glim_len_lt (by omega) h
   rw [cmpZ_lt (by omega), cmpZ_lt (by omega)]
 · have := glim_len_lt (by omega) h
   rw [cmpZ_gt (by omega), cmpZ_gt (by omega)]
theorem glim_cmp_at {m n i x y : Nat} (hlen : (glim 4294967296 m).length = (glim 4294967296 n).length) (hd : (glim 4294967296 m).drop (i + 1) = (glim 4294967296 n).drop (i + 1)) (hx : (glim 4294967296 m)[i]? = some x) (hy : (glim 4294967296 n)[i]? = some y) (hxy : x ≠ y) : cmpZ (m : Int) (n : Int) = cmpZ (x : Int) (y : Int) := by
 rcases Nat.lt_or_gt_of_ne hxy with h | h
 · have := gval_order (lm_glim (by omega) m) hlen hd hx hy h
   rw [gval_glim (by omega), gval_glim (by omega)] at this
   rw [cmpZ_lt (by omega), cmpZ_lt (by omega)]
 · have := gval_order (lm_glim (by omega) n) hlen.symm hd.symm hy hx h
   rw [gval_glim (by omega), gval_glim (by omega)] at this
   rw [cmpZ_gt (by omega), cmpZ_gt (by omega)]
theorem below_drewNv {B : Nat} {a w : World} (h : Below B a w) (n : Nat) : Below B a (w.drewN n) := by
 induction n with
 | zero => exact h
 | succ n ih => exact ih.drew
theorem frozen_set (w : World) (p : Addr) (hp : p.spot = none) (v : Value) (a : Addr) : (w.setCell p v).frozen? a = w.frozen? a := by
 obtain ⟨g, o, sp⟩ := p
 simp only at hp; subst hp
 exact World.frozen?_setCells g [v] o w a
theorem Box.put {g : Nat} {u v u' v' : Value} {w : World} (h : Box g u v w) : Box g u' v' ((w.setCell ⟨g, 0, none⟩ u').setCell ⟨g, 1, none⟩ v') := by
 refine ⟨?_, ?_, ?_, ?_⟩
 · rw [World.cell?_setCell_other _ _ ⟨g, 0, none⟩ _ (by simp)]
   exact World.cell?_setCell_same _ _ _ h.1
 · refine World.cell?_setCell_same _ _ (u := v) _ ?_
   rw [World.cell?_setCell_other _ _ ⟨g, 1, none⟩ _ (by simp)]
   exact h.2.1
 · rw [frozen_set _ _ rfl, frozen_set _ _ rfl]; exact h.2.2.1
 · rw [frozen_set _ _ rfl, frozen_set _ _ rfl]; exact h.2.2.2
theorem Box.far {g k : Nat} {u v x y : Value} {w : World} (h : Box g u v w) (hne : g ≠ k) : Box g u v ((w.setCell ⟨k, 0, none⟩ x).setCell ⟨k, 1, none⟩ y) := by
 refine ⟨?_, ?_, ?_, ?_⟩
 · rw [World.cell?_setCell_other _ _ ⟨g, 0, none⟩ _ (by simp), World.cell?_setCell_other _ _ ⟨g, 0, none⟩ _ (by simp; try omega)]; exact h.1
 · rw [World.cell?_setCell_other _ _ ⟨g, 1, none⟩ _ (by simp; try omega), World.cell?_setCell_other _ _ ⟨g, 1, none⟩ _ (by simp)]; exact h.2.1
 · rw [frozen_set _ _ rfl, frozen_set _ _ rfl]; exact h.2.2.1
 · rw [frozen_set _ _ rfl, frozen_set _ _ rfl]; exact h.2.2.2
theorem Lies.set {o : Option Addr} {l : List Nat} {w : World} (h : Lies o l w) {p : Addr} {v : Value} (hp : w.cell? p = some v) (hv : ∀ n, v ≠ .int .u32 n) (x : Value) : Lies o l (w.setCell p x) := fun j y hy => by
 obtain ⟨a, ha, hc⟩ := h j y hy
 refine ⟨a, ha, ?_⟩
 rw [World.cell?_setCell_other _ _ _ _ (fun e => ?_)]
 · exact hc
 · rw [← e, hp] at hc
   injection hc with hc; exact hv _ hc
theorem Lies.box {o : Option Addr} {l : List Nat} {w : World} (h : Lies o l w) {g : Nat} {b : Bool} {o' : Option Addr} {n c : Nat} (hb : Box g (.bool b) (.slice o' n c) w) (x y : Value) : Lies o l ((w.setCell ⟨g, 0, none⟩ x).setCell ⟨g, 1, none⟩ y) := by
 refine (h.set hb.1 (fun _ => by simp) x).set (v := .slice o' n c) ?_ (fun _ => by simp) y
 rw [World.cell?_setCell_other _ _ ⟨g, 1, none⟩ _ (by simp)]
 exact hb.2.1
theorem IsC.box {v : Value} {Z : Int} {K : Nat} {w : World} (h : IsC v Z K w) {g : Nat} {b : Bool} {o' : Option Addr} {n c : Nat} (hb : Box g (.bool b) (.slice o' n c) w) {x y : Value} : IsC v Z K ((w.setCell ⟨g, 0, none⟩ x).setCell ⟨g, 1, none⟩ y) := by
 obtain ⟨o, c, rfl, hL, hc, hK⟩ := h
 exact ⟨o, c, rfl, hL.box hb x y, hc, hK⟩
def Two (X Y : Int) (K : Nat) (w wx : World) : Prop := ∃ o1 c1 o2 c2, Box w.heap.size (.bool (decide (X < 0))) (.slice o1 (glim 4294967296 X.natAbs).length c1) wx ∧ Box (w.heap.size + 1) (.bool (decide (Y < 0))) (.slice o2 (glim 4294967296 Y.natAbs).length c2) wx ∧ Lies o1 (glim 4294967296 X.natAbs) wx ∧ Lies o2 (glim 4294967296 Y.natAbs) wx ∧ (glim 4294967296 X.natAbs).length ≤ c1 ∧ (glim 4294967296 Y.natAbs).length ≤ c2 ∧ (glim 4294967296 X.natAbs).length ≤ K ∧ (glim 4294967296 Y.natAbs).length ≤ K
def After (w W0 wx : World) : Prop := (∀ g u v, w.heap.size + 2 ≤ g → g < W0.heap.size → Box g u v W0 → Box g u v wx) ∧ W0.heap.size ≤ wx.heap.size ∧ Below w.heap.size w wx
theorem after_put {w W0 w2 : World} {a0 a1 b0 b1 : Value} (hB0 : Below w.heap.size w W0) (hz : w.heap.size + 2 ≤ W0.heap.size) (hb : Below W0.heap.size W0 w2) :
   After w W0 ((((w2.setCell ⟨w.heap.size, 0, none⟩ a0).setCell ⟨w.heap.size, 1, none⟩ a1).setCell ⟨w.heap.size + 1, 0, none⟩ b0).setCell ⟨w.heap.size + 1, 1, none⟩ b1) := by
 refine ⟨fun g u v hg hgw h => ((h.below hb hgw).far (by omega)).far (by omega), ?_, ?_⟩
 · have := hb.size; simpa using this
 · exact (((((hB0.trans (below_le hb (by omega))).setCell (p := ⟨w.heap.size, 0, none⟩) (Nat.le_refl _) _).setCell (p := ⟨w.heap.size, 1, none⟩) (Nat.le_refl _) _).setCell (p := ⟨w.heap.size + 1, 0, none⟩) (by simp) _).setCell (p := ⟨w.heap.size + 1, 1, none⟩) (by simp) _)
theorem boxes_put {w W0 w2 : World} {a0 a1 b0 b1 x0 x1 y0 y1 : Value} (kA : Box w.heap.size x0 x1 W0) (kB : Box (w.heap.size + 1) y0 y1 W0) (hz : w.heap.size + 2 ≤ W0.heap.size) (hb : Below W0.heap.size W0 w2) :
   Box w.heap.size a0 a1 ((((w2.setCell ⟨w.heap.size, 0, none⟩ a0).setCell ⟨w.heap.size, 1, none⟩ a1).setCell ⟨w.heap.size + 1, 0, none⟩ b0).setCell ⟨w.heap.size + 1, 1, none⟩ b1) ∧ Box (w.heap.size + 1) b0 b1 ((((w2.setCell ⟨w.heap.size, 0, none⟩ a0).setCell ⟨w.heap.size, 1, none⟩ a1).setCell ⟨w.heap.size + 1, 0, none⟩ b0).setCell ⟨w.heap.size + 1, 1, none⟩ b1) :=
 ⟨((kA.below hb (by omega)).put).far (by omega), ((kB.below hb (by omega)).far (by omega)).put⟩
theorem Lies.drew {o : Option Addr} {l : List Nat} {w : World} (h : Lies o l w) : Lies o l w.drew := h
theorem below_of_drew {w w' : World} (h : Below w.drew.heap.size w.drew w') : Below w.heap.size w w' := ((Below.refl _ w).drew).trans h
theorem own_isN {g : Nat} {L : List Nat} {w : World} (s : Bool) {K n : Nat} (h : Own g L w) (hm : Lm 4294967296 L) (hn : gval 4294967296 L = n) (hk : L.length ≤ K) : IsN (.agg #[.bool s, .slice (some ⟨g, 0, none⟩) L.length L.length]) (sv s n) K w :=
 ⟨s, _, L, _, rfl, h.lies, Nat.le_refl _, hm, by rw [hn], hk⟩
theorem sv_add_same {X Y : Int} (h : decide (X < 0) = decide (Y < 0)) : sv (decide (X < 0)) (X.natAbs + Y.natAbs) = X + Y := by
 unfold sv
 by_cases hx : X < 0
 · have hy : Y < 0 := by simpa [hx] using h
   simp only [hx, decide_true, if_true]; omega
 · have hy : ¬ Y < 0 := by simpa [hx] using h
   simp only [hx, decide_false, Bool.false_eq_true, if_false]; omega
theorem sv_add_sub {X Y : Int} (h : decide (X < 0) ≠ decide (Y < 0)) (hle : Y.natAbs ≤ X.natAbs) : sv (decide (X < 0)) (X.natAbs - Y.natAbs) = X + Y := by
 unfold sv
 by_cases hx : X < 0
 · have hy : ¬ Y < 0 := by simpa [hx] using h
   simp only [hx, decide_true, if_true]; omega
 · have hy : Y < 0 := by simpa [hx] using h
   simp only [hx, decide_false, Bool.false_eq_true, if_false]; omega
theorem boxes2 (w : World) (a0 a1 b0 b1 : Value) (ta tb : TypeId) :
   Box w.heap.size a0 a1 ((w.alloc (.cells #[a0, a1] ta)).alloc (.cells #[b0, b1] tb)) ∧ Box (w.heap.size + 1) b0 b1 ((w.alloc (.cells #[a0, a1] ta)).alloc (.cells #[b0, b1] tb)) ∧ Below w.heap.size w ((w.alloc (.cells #[a0, a1] ta)).alloc (.cells #[b0, b1] tb)) ∧ ((w.alloc (.cells #[a0, a1] ta)).alloc (.cells #[b0, b1] tb)).heap.size = w.heap.size + 2 := by
 refine ⟨(Box.new w a0 a1 ta).alloc _ (by simp), ?_, ((Below.refl _ w).alloc (Nat.le_refl _) _).alloc (by simp) _, by simp⟩
 have := Box.new (w.alloc (.cells #[a0, a1] ta)) b0 b1 tb
 simp only [World.size_alloc] at this
 exact this
theorem cmpZ_neg (x y : Int) : cmpZ (-x) (-y) = cmpZ y x := by
 unfold cmpZ
 by_cases h : y < x
 · rw [if_pos (by omega), if_pos h]
 · rw [if_neg (by omega), if_neg h]
   by_cases h2 : x < y
   · rw [if_pos (by omega), if_pos h2]
   · rw [if_neg (by omega), if_neg h2]
theorem gval_set (b : Nat) {l : List Nat} {i old : Nat} (x : Nat) (h : l[i]? = some old) : gval b (l.set i x) + b ^ i * old = gval b l + b ^ i * x := by
 have hi : i < l.length := (List.getElem?_eq_some_iff.1 h).1
 have e1 := gval_split b (i + 1) l (by omega)
 have e2 := gval_split b (i + 1) (l.set i x) (by simp; omega)
 rw [gval_set_take b x hi, List.drop_set_of_lt (by omega)] at e2
 rw [gval_take_succ b h] at e1
 omega
theorem mul_step {P G V W c x y old s G' : Nat} (hs : c + (x * y + old) = s) (hg : G' + P * old = G + P * (s % 4294967296)) (h : G + P * c = V + W) : G' + P * 4294967296 * (s / 4294967296) = V + (W + P * (x * y)) := by
 have e : P * s = P * c + (P * (x * y) + P * old) := by rw [← hs, Nat.mul_add, Nat.mul_add]
 have e2 : P * s = P * (s % 4294967296) + (P * 4294967296) * (s / 4294967296) := by
   rw [Nat.mul_assoc, ← Nat.mul_add, Nat.mod_add_div]
 omega
theorem mul_tail (k q x y : Nat) : (4294967296 : Nat) ^ (k + q) * (x * y) = 4294967296 ^ k * (x * (4294967296 ^ q * y)) := by
 rw [Nat.pow_add, Nat.mul_assoc]; congr 1; exact Nat.mul_left_comm _ _ _
def ln (Z : Int) : Nat := (glim 4294967296 Z.natAbs).length
def mulOk (X Y : Int) : Bool := decide (ln X ≤ 128 ∧ ln Y ≤ 128 ∧ ln (X * Y) ≤ 128)
theorem sv_mul (X Y : Int) : sv (decide (X < 0) != decide (Y < 0)) (X.natAbs * Y.natAbs) = X * Y := by
 rw [← Int.natAbs_mul]
 unfold sv
 by_cases hx : X < 0 <;> by_cases hy : Y < 0 <;> simp only [hx, hy, decide_true, decide_false, bne_self_eq_false, Bool.false_eq_true, if_false]
 · have : 0 ≤ X * Y := Int.mul_nonneg_of_nonpos_of_nonpos (by omega) (by omega)
   omega
 · have : X * Y ≤ 0 := Int.mul_nonpos_of_nonpos_of_nonneg (by omega) (by omega)
   simp; omega
 · have : X * Y ≤ 0 := Int.mul_nonpos_of_nonneg_of_nonpos (by omega) (by omega)
   simp; omega
 · have : 0 ≤ X * Y := Int.mul_nonneg (by omega) (by omega)
   omega
theorem isC_zero (K : Nat) (w : World) : IsC (.agg #[.bool false, .slice none 0 0]) 0 K w := ⟨none, 0, by simp [glim_zero], fun j x hx => by simp [glim_zero] at hx, by simp [glim_zero], by simp [glim_zero]⟩
theorem lies_pair (w : World) (lo hi : Nat) (t : TypeId) : Lies (some ⟨w.heap.size, 0, none⟩) [lo, hi] (w.alloc (.cells #[.int .u32 (lo : Int), .int .u32 (hi : Int)] t)) := fun j x hx => by
 refine ⟨_, rfl, ?_⟩
 rw [addr_add, Nat.zero_add, World.cell?_alloc_mark]
 match j, hx with
 | 0, hx => simp at hx; subst hx; rfl
 | 1, hx => simp at hx; subst hx; rfl
 | j + 2, hx => simp at hx
def Fr (B : Nat) (v : Value) (l : List Nat) (w : World) : Prop := w.ownsRow B 133 1 v l.length (l.map fun (x : Nat) => Value.int .u32 (x : Int))
theorem Fr.nil (B : Nat) (w : World) : Fr B (.slice none 0 0) [] w := World.ownsRow_nil _ _ _ _
theorem Fr.own {B g c : Nat} {l : List Nat} {w : World} {n : Nat} (h : Fr B (.slice (some ⟨g, 0, none⟩) n c) l w) : B ≤ g ∧ g < w.heap.size ∧ Own g l w ∧ l.length ≤ c := by
 rcases h.2 with ⟨hv, h0⟩ | ⟨g', cap, cur, hv, hb, hg, hnc, hcm, hcs, htake⟩
 · simp at hv
 · simp only [Value.slice.injEq, Option.some.injEq, Addr.mk.injEq, and_true] at hv
   obtain ⟨rfl, rfl, rfl⟩ := hv
   refine ⟨hb, (Array.getElem?_eq_some_iff.1 hg).1, ⟨fun j x hj => ?_, fun j => ?_⟩, hnc⟩
   · have hc : w.cell? ⟨g, j, none⟩ = cur[j]? := by simp [World.cell?, hg]
     rw [hc, ← Array.getElem?_toList]
     have hj' : j < l.length := (List.getElem?_eq_some_iff.1 hj).1
     have := congrArg (·[j]?) htake
     simp only [List.getElem?_take, List.getElem?_map, hj, Option.map_some, Nat.mul_one, if_pos hj'] at this
     exact this
   · simp [World.frozen?, hg]
theorem Fr.shape {B : Nat} {v : Value} {l : List Nat} {w : World} (h : Fr B v l w) : (v = .slice none 0 0 ∧ l = []) ∨ ∃ g c, v = .slice (some ⟨g, 0, none⟩) l.length c := by
 rcases h.2 with ⟨hv, h0⟩ | ⟨g, cap, cur, hv, _⟩
 · exact .inl ⟨hv, List.eq_nil_of_length_eq_zero h0⟩
 · exact .inr ⟨g, cap, hv⟩
theorem Fr.parts {B : Nat} {v : Value} {l : List Nat} {w : World} (h : Fr B v l w) : ∃ o c, v = .slice o l.length c ∧ Lies o l w ∧ l.length ≤ c ∧ (l ≠ [] → ∃ g, o = some ⟨g, 0, none⟩ ∧ B ≤ g ∧ g < w.heap.size ∧ Own g l w) := by
 rcases h.shape with ⟨rfl, rfl⟩ | ⟨g, c, rfl⟩
 · exact ⟨none, 0, rfl, fun j x hx => by simp at hx, by simp, fun e => absurd rfl e⟩
 · obtain ⟨h1, h2, h3, h4⟩ := h.own
   exact ⟨_, c, rfl, h3.lies, h4, fun _ => ⟨g, rfl, h1, h2, h3⟩⟩
theorem Fr.below {B : Nat} {v : Value} {l : List Nat} {w w' : World} (h : Fr B v l w) (hb : Below w.heap.size w w') : Fr B v l w' := by
 refine ⟨h.1, ?_⟩
 rcases h.2 with hn | ⟨g, cap, cur, hv, hbg, hg, rest⟩
 · exact .inl hn
 · exact .inr ⟨g, cap, cur, hv, hbg, (hb.block g (Array.getElem?_eq_some_iff.1 hg).1).trans hg, rest⟩
theorem Fr.set {B : Nat} {v : Value} {l : List Nat} {w : World} (h : Fr B v l w) {p : Addr} (hp : p.block < B) (x : Value) : Fr B v l (w.setCell p x) := by
 refine ⟨h.1, ?_⟩
 rcases h.2 with hn | ⟨g, cap, cur, hv, hbg, hg, rest⟩
 · exact .inl hn
 · refine .inr ⟨g, cap, cur, hv, hbg, ?_, rest⟩
   rw [Below.heap_setCell _ _ _ _ (fun e => by omega)]; exact hg
theorem Fr.mono {B B' : Nat} {v : Value} {l : List Nat} {w : World} (h : Fr B v l w) (hB : B' ≤ B) : Fr B' v l w := by
 refine ⟨h.1, ?_⟩
 rcases h.2 with hn | ⟨g, cap, cur, hv, hbg, rest⟩
 · exact .inl hn
 · exact .inr ⟨g, cap, cur, hv, by omega, rest⟩
set_option maxHeartbeats 1000000 in
theorem clone_w (o : Option Addr) (c : Nat) (l : List Nat) (w : World) (hl : l.length ≤ 1000000) (h : Lies o l w) :
   Calls Tryz.prog 128 #[.slice o l.length c] w fun e w' => ∃ v', e = .returned v' ∧ Fr w.heap.size v' l w' ∧ Below w.heap.size w w' := by
 have q : ∀ (w : World) (a : Option Addr) (n c n' c' : Nat), (binOp .eql 23 (.slice a n c) (.slice none n' c')).run Tryz.prog w = .ok (.bool a.isNone) w := fun w a n c n' c' => Lib.run_eql_slice_nil w _ _ a n c n' c' Tryz.underlying23
 cases o with
 | none =>
   have hl0 : l = [] := by
     cases l with
     | nil => rfl
     | cons x t => obtain ⟨a, ha, _⟩ := h 0 x (by simp); simp at ha
   subst hl0
   go_enter Tryz.func128, Tryz.ntmps128
   go_wp2
   go_ret
   exact ⟨_, rfl, Fr.nil _ _, Below.refl _ _⟩
 | some a =>
   obtain ⟨i0, hi, hz0, hz1, hz2⟩ := info_parts info32u
   have A : Hid (Lies (some a) l w) := hid h
   clear h
   go_enter Tryz.func128, Tryz.ntmps128
   go_wp2_with (at_builtin; refine wpList_append_own _ rfl _ _ 23 rfl w.heap.size 133 i0 (.int .u32 0) 1 4 Tryz.underlying23 hi hz0 hz1 hz2 rfl (by decide) _ _ _ rfl (World.ownsRow_made w #[] 0 (Nat.le_refl _) (Nat.zero_le _) rfl) a l.length c (l.map fun (x : Nat) => Value.int .u32 (x : Int)) rfl ?c1 ?c2 ?c3 ?c4 ?c5 ?c6 ?_)
   case c1 => simp
   case c2 =>
     intro j u hj
     rw [List.getElem?_map] at hj
     cases hx : l[j]? with
     | none => rw [hx] at hj; simp at hj
     | some x =>
       rw [hx] at hj
       simp only [Option.map_some, Option.some.injEq] at hj
       subst hj
       obtain ⟨a', ha, hc⟩ := A.out j x hx
       obtain rfl := Option.some.inj ha
       exact (((Below.refl w.heap.size w).alloc (Nat.le_refl _) _).cell (World.block_lt_of_cell? _ _ hc)).trans hc
   case c3 => intro u hu; obtain ⟨x, _, rfl⟩ := List.mem_map.1 hu; rfl
   case c4 => unfold maxLen; omega
   case c5 => omega
   case c6 => simp
   intro v' w1 hown hgrow hnil
   go_wp2
   go_ret
   refine ⟨v', rfl, ?_, ?_⟩
   · unfold Fr; simpa using hown
   · exact ((Below.refl _ w).alloc (Nat.le_refl _) _).grown hgrow (by simp) (by intro k hk; simp [Value.ownBlock] at hk; omega)
theorem norm_w (v : Value) (Z : Int) (K : Nat) (w : World) (hK : K ≤ 1000000) (h : IsN v Z K w) :
   Calls Tryz.prog 104 #[v] w fun e w' => ∃ sl, e = .returned (.agg #[.bool (decide (Z < 0)), sl]) ∧ Fr w.heap.size sl (glim 4294967296 Z.natAbs) w' ∧ (glim 4294967296 Z.natAbs).length ≤ K ∧ Below w.heap.size w w' := by
 have hA : ∀ w', Below w.heap.size w w' → IsN v Z K w' := fun w' hw => h.below hw
 obtain ⟨neg, o, l, c, rfl, hL, hc, hm, hs, hk⟩ := h
 obtain ⟨kA, kB, hB0, hz0⟩ := boxes2 w (.bool neg) (.slice o l.length c) (.bool false) (.slice none 0 0) 117 117
 clear hL hc hm hs hk
 go_enter Tryz.func104, Tryz.ntmps104
 go_wp2_with fail
 generalize ((w.alloc (.cells #[.bool neg, .slice o l.length c] 117)).alloc (.cells #[.bool false, .slice none 0 0] 117)) = W0 at *
 refine (view_w _ Z K _ hK (hA _ hB0)).mono ?_
 rintro e w1 ⟨v1, rfl, hv1, b1⟩
 obtain ⟨o1, c1, rfl, L1, z1, q1⟩ := hv1 w (hA w (Below.refl _ _))
 have hz1 := b1.size
 have hB1 := below_and hB0 (Nat.le_refl _) b1
 have kA1 := kA.below b1 (by omega)
 have kB1 := kB.below b1 (by omega)
 obtain ⟨p1, p2, p3, p4⟩ := id kA1
 clear b1 hA kA kB hv1
 go_wp2_with fail
 have kA2 : Box w.heap.size (.bool (decide (Z < 0))) (.slice o1 (glim 4294967296 Z.natAbs).length c1) ((w1.setCell ⟨w.heap.size, 0, none⟩ (.bool (decide (Z < 0)))).setCell ⟨w.heap.size, 1, none⟩ (.slice o1 (glim 4294967296 Z.natAbs).length c1)) := kA1.put
 have kB2 := kB1.far (k := w.heap.size) (x := .bool (decide (Z < 0))) (y := .slice o1 (glim 4294967296 Z.natAbs).length c1) (by omega)
 have hB2 := (hB1.setCell (p := ⟨w.heap.size, 0, none⟩) (Nat.le_refl _) (.bool (decide (Z < 0)))).setCell (p := ⟨w.heap.size, 1, none⟩) (Nat.le_refl _) (.slice o1 (glim 4294967296 Z.natAbs).length c1)
 have hz2 : w.heap.size + 2 ≤ ((w1.setCell ⟨w.heap.size, 0, none⟩ (.bool (decide (Z < 0)))).setCell ⟨w.heap.size, 1, none⟩ (.slice o1 (glim 4294967296 Z.natAbs).length c1)).heap.size := by simp; omega
 clear kA1 kB1 p1 p2 p3 p4 hB1
 generalize (w1.setCell ⟨w.heap.size, 0, none⟩ (.bool (decide (Z < 0)))).setCell ⟨w.heap.size, 1, none⟩ (.slice o1 (glim 4294967296 Z.natAbs).length c1) = w2 at *
 refine (clone_w o1 c1 _ _ (by omega) (L1.below hB2)).mono ?_
 rintro e w3 ⟨sl, rfl, hF, b3⟩
 have kA3 := kA2.below b3 (by omega)
 have kB3 := kB2.below b3 (by omega)
 have hB3 := below_and hB2 (Nat.le_refl _) b3
 obtain ⟨p1, p2, p3, p4⟩ := id kA3
 obtain ⟨r1, r2, r3, r4⟩ := id kB3
 have hz3 := b3.size
 obtain ⟨o3, c3, rfl, L3, z3, hown⟩ := hF.parts
 clear kA2 kB2 b3
 go_wp2
 refine bodyPost_ret (v := .agg #[.bool (decide (Z < 0)), .slice o3 (glim 4294967296 Z.natAbs).length c3]) (by simp [results, Tryz.results104, go_sem, r1, r2]) rfl ⟨_, rfl, ?_, q1, ?_⟩
 · exact (((hF.set (p := ⟨w.heap.size, 1, none⟩) (by simp; omega) _).set (p := ⟨w.heap.size + 1, 0, none⟩) (by simp; omega) _).set (p := ⟨w.heap.size + 1, 1, none⟩) (by simp; omega) _).mono (by omega)
 · exact ((hB3.setCell (p := ⟨w.heap.size, 1, none⟩) (by simp) _).setCell (p := ⟨w.heap.size + 1, 0, none⟩) (by simp) _).setCell (p := ⟨w.heap.size + 1, 1, none⟩) (by simp) _
def Only (g : Nat) (w w' : World) : Prop := Below g w w' ∧ w'.heap.size = w.heap.size ∧ ∀ k, k ≠ g → w'.heap[k]? = w.heap[k]?
theorem Only.refl (g : Nat) (w : World) : Only g w w := ⟨Below.refl _ _, rfl, fun _ _ => rfl⟩
theorem Only.setCell {g : Nat} {a b : World} (h : Only g a b) (j : Nat) (v : Value) : Only g a (b.setCell ⟨g, j, none⟩ v) :=
 ⟨h.1.setCell (Nat.le_refl _) v, by simpa using h.2.1, fun k hk => by rw [Below.heap_setCell _ _ _ _ (fun e => hk (by first | exact e | exact e.symm))]; exact h.2.2 k hk⟩
theorem Only.below {g B : Nat} {a b : World} (h : Only g a b) (hB : B ≤ g) : Below B a b := below_le h.1 hB
theorem Box.only {g k : Nat} {u v : Value} {w w' : World} (h : Box k u v w) (ho : Only g w w') (hk : k ≠ g) : Box k u v w' :=
 ⟨(World.cell?_of_block (a := ⟨k, 0, none⟩) (ho.2.2 k hk)).trans h.1, (World.cell?_of_block (a := ⟨k, 1, none⟩) (ho.2.2 k hk)).trans h.2.1, (World.frozen?_of_block (a := ⟨k, 0, none⟩) (ho.2.2 k hk)).trans h.2.2.1, (World.frozen?_of_block (a := ⟨k, 1, none⟩) (ho.2.2 k hk)).trans h.2.2.2⟩
theorem or32 {r x : Nat} (hr : r < 4294967296) (hx : x < 4294967296) : bits .or .u64 ((r * 4294967296 : Nat) : Int) (x : Int) = ((r * 4294967296 + x : Nat) : Int) := by
 rw [u64_or _ _ (by omega) (by omega) (by omega) (by omega)]
 simp only [Int.toNat_natCast]
 rw [nat_join 32 _ _ (by omega) (by omega)]
theorem shrink_step {d q r r' x G T : Nat} (hc : q * d + r' = r * 4294967296 + x) (h : G * d + r = T) : (q + 4294967296 * G) * d + r' = x + 4294967296 * T := by
 subst h
 rw [Nat.add_mul, Nat.mul_add, Nat.mul_assoc]
 omega
theorem gval_drop_at (b : Nat) {l : List Nat} {k x : Nat} (h : l[k]? = some x) : gval b (l.drop k) = x + b * gval b (l.drop (k + 1)) := by
 have hi : k < l.length := (List.getElem?_eq_some_iff.1 h).1
 have hx : l[k] = x := (List.getElem?_eq_some_iff.1 h).2
 rw [List.drop_eq_getElem_cons hi, hx]; rfl
theorem gval_drop_set (b : Nat) {l : List Nat} {k : Nat} (x : Nat) (h : k < l.length) : gval b ((l.set k x).drop k) = x + b * gval b (l.drop (k + 1)) := by
 rw [gval_drop_at b (x := x) (by simp [h]), List.drop_set_of_lt (by omega)]
set_option maxHeartbeats 1000000 in
theorem shrink_w (g c d : Nat) (l : List Nat) (w : World) (hd0 : 0 < d) (hd : d < 4294967296) (hl : Lm 4294967296 l) (hlen : l.length ≤ 1000000) (hO : Own g l w) :
   Calls Tryz.prog 106 #[.slice (some ⟨g, 0, none⟩) l.length c, .int .u32 (d : Int)] w fun e w' => e = .returned (.int .u32 ((gval 4294967296 l % d : Nat) : Int)) ∧ ∃ L, Own g L w' ∧ Lm 4294967296 L ∧ gval 4294967296 L = gval 4294967296 l / d ∧ L.length = l.length ∧ Only g w w' := by
 obtain ⟨R, hR⟩ : ∃ R, gval 4294967296 l % d = R := ⟨_, rfl⟩
 rw [hR]
 have hR' := hid hR
 clear hR
 go_enter Tryz.func106, Tryz.ntmps106
 go_wp2
 go_loopw [5, 6] (fun rv i wr => ∃ (k r : Nat) (L : List Nat), rv = .int .u64 (r : Int) ∧ i = .int .i64 ((k : Int) - 1) ∧ k ≤ l.length ∧ r < d ∧ Own g L wr ∧ L.length = l.length ∧ Lm 4294967296 L ∧ Only g w wr ∧ Hid (gval 4294967296 (L.drop k) * d + r = gval 4294967296 (l.drop k)) ∧ Hid (L.take k = l.take k)) (fun _ i _ => (intOf i + 1).toNat)
 case atStart => exact ⟨l.length, 0, l, rfl, by go_num, Nat.le_refl _, hd0, hO, rfl, hl, Only.refl _ _, hid (by simp [gval]), hid rfl⟩
 case round =>
   obtain ⟨k, r, L, rfl, rfl, hk, hr, hL, hLl, hLm, hon, hH, hT⟩ := hrel
   by_cases h0 : k = 0
   · subst h0
     have hh := hH.out
     simp only [List.drop_zero] at hh
     have e1 : gval 4294967296 l / d = gval 4294967296 L := by
       rw [← hh, Nat.add_comm, Nat.add_mul_div_right _ _ hd0, Nat.div_eq_of_lt hr]; omega
     have e2 : R = r := by rw [← hR'.out, ← hh, Nat.add_comm, Nat.add_mul_mod_self_right, Nat.mod_eq_of_lt hr]
     have w3 : IntKind.u32.wrap (r : Int) = (r : Int) := by rw [IntKind.wrap_u32]; omega
     subst e2
     clear hh hH hT hR'
     go_wp2
     go_ret
     exact ⟨rfl, L, hL, hLm, e1.symm, hLl, hon⟩
   · obtain ⟨j, rfl⟩ : ∃ j, k = j + 1 := ⟨k - 1, by omega⟩
     obtain ⟨x, hx⟩ : ∃ x, l[j]? = some x := ⟨l[j]'(by omega), by simp⟩
     have hxL : L[j]? = some x := by
       have := congrArg (·[j]?) hT.out
       simp only [List.getElem?_take_of_lt (show j < j + 1 by omega)] at this
       rw [this, hx]
     have cx := hL.1 j x hxL
     have fx := hL.2 j
     have hxm := hl.at hx
     have e1 : (((j + 1 : Nat) : Int) - 1) = (j : Int) := by omega
     have hjl : (j : Int) < (l.length : Int) := by omega
     obtain ⟨cur, hcur⟩ : ∃ cur, r * 4294967296 + x = cur := ⟨_, rfl⟩
     obtain ⟨rb, hrb⟩ : ∃ rb, r * 4294967296 = rb := ⟨_, rfl⟩
     have w1 : IntKind.u64.wrap ((r : Int) * 4294967296) = (rb : Int) := by rw [IntKind.wrap_u64]; omega
     have w2 : bits .or .u64 (rb : Int) (x : Int) = (cur : Int) := by
       have := or32 (r := r) (x := x) (by omega) hxm
       rw [hrb] at this
       rw [this, ← hcur, hrb]
     have hq : cur / d < 4294967296 := by
       rw [Nat.div_lt_iff_lt_mul hd0, ← hcur]
       have : (r + 1) * 4294967296 ≤ d * 4294967296 := Nat.mul_le_mul_right _ hr
       rw [Nat.mul_comm d] at this
       omega
     have hdz : ((d : Int) == 0) = false := by simp; omega
     have hdn : ¬ (d : Int) = 0 := by omega
     obtain ⟨Q, hQ⟩ : ∃ Q, cur / d = Q := ⟨_, rfl⟩
     obtain ⟨r2, hr2⟩ : ∃ r2, cur % d = r2 := ⟨_, rfl⟩
     have hr2d : r2 < d := by rw [← hr2]; exact Nat.mod_lt _ hd0
     rw [hQ] at hq
     have w3 : IntKind.u64.wrap ((cur : Int) / (d : Int)) = (Q : Int) := by
       rw [show (cur : Int) / (d : Int) = (Q : Int) by rw [← hQ]; exact (Int.natCast_ediv cur d).symm, IntKind.wrap_u64]; omega
     have w4 : IntKind.u32.wrap (Q : Int) = (Q : Int) := by rw [IntKind.wrap_u32]; omega
     have w5 : (cur : Int) % (d : Int) = (r2 : Int) := by rw [← hr2]; exact (Int.natCast_emod cur d).symm
     have hdm : Hid (Q * d + r2 = r * 4294967296 + x) := hid (by rw [← hQ, ← hr2, hcur, Nat.mul_comm]; exact Nat.div_add_mod cur d)
     clear hQ hr2
     have hc1 := hid hcur
     have hc2 := hid hrb
     clear hcur hrb
     rw [e1]
     go_wp2
     go_roundw
     case rel =>
       refine ⟨j, r2, L.set j Q, by rw [w5], by go_num, by omega, hr2d, hL.set _ (by omega), by simp [hLl], hLm.set _ _ hq, hon.setCell _ _, hid ?_, hid ?_⟩
       · rw [gval_drop_set _ _ (by omega), gval_drop_at _ hx]
         exact shrink_step hdm.out hH.out
       · rw [List.take_set_of_le (Nat.le_refl _)]
         have := congrArg (List.take j) hT.out
         rwa [List.take_take, List.take_take, Nat.min_eq_left (by omega)] at this
     case measure => simp [intOf]; try omega
def OwnB (g : Nat) (l : List Nat) (w : World) : Prop := (∀ (j x : Nat), l[j]? = some x → w.cell? ⟨g, j, none⟩ = some (.int .u8 (x : Int))) ∧ ∀ j, w.frozen? ⟨g, j, none⟩ = false
theorem OwnB.set {g : Nat} {l : List Nat} {w : World} (h : OwnB g l w) {j : Nat} (x : Nat) (hj : j < l.length) : OwnB g (l.set j x) (w.setCell ⟨g, j, none⟩ (.int .u8 (x : Int))) := by
 have hc := h.1 j l[j] (by simp [hj])
 refine ⟨fun i y hy => ?_, fun i => ?_⟩
 · by_cases hij : j = i
   · subst hij
     rw [List.getElem?_set_self hj] at hy
     injection hy with hy; subst hy
     exact World.cell?_setCell_same _ _ _ hc
   · rw [List.getElem?_set_ne hij] at hy
     rw [World.cell?_setCell_other w ⟨g, j, none⟩ ⟨g, i, none⟩ _ (by simp [hij])]
     exact h.1 i y hy
 · have := World.frozen?_setCells g [Value.int .u8 (x : Int)] j w ⟨g, i, none⟩
   exact this.trans (h.2 i)
theorem OwnB.drew {g : Nat} {l : List Nat} {w : World} (h : OwnB g l w) : OwnB g l w.drew := h
theorem Only.drew {g : Nat} {a b : World} (h : Only g a b) : Only g a b.drew := ⟨h.1.drew, h.2.1, h.2.2⟩
set_option maxHeartbeats 1000000 in
theorem reverse_w (g c : Nat) (l : List Nat) (w : World) (hlen : l.length ≤ 1000000) (hO : OwnB g l w) :
   Calls Tryz.prog 107 #[.slice (some ⟨g, 0, none⟩) l.length c] w fun e w' => (∃ v, e = .returned v) ∧ OwnB g l.reverse w' ∧ Only g w w' := by
 go_enter Tryz.func107, Tryz.ntmps107
 go_wp2
 go_loopw [2, 3] (fun i j wr => ∃ (k : Nat) (L : List Nat), i = .int .i64 (k : Int) ∧ j = .int .i64 ((l.length : Int) - 1 - (k : Int)) ∧ 2 * k ≤ l.length + 1 ∧ OwnB g L wr ∧ L.length = l.length ∧ Only g w wr ∧ Hid (∀ q, q < l.length → L[q]? = if q < k ∨ l.length ≤ q + k then l[l.length - 1 - q]? else l[q]?)) (fun i _ _ => l.length - (intOf i).toNat)
 case atStart =>
   refine ⟨0, l, rfl, by go_num, by omega, hO, rfl, Only.refl _ _, hid fun q hq => ?_⟩
   rw [if_neg (by omega)]
 case round =>
   obtain ⟨k, L, rfl, rfl, hk, hL, hLl, hon, hH⟩ := hrel
   by_cases h1 : 2 * k + 1 < l.length
   · obtain ⟨m, hm⟩ : ∃ m, l.length - 1 - k = m := ⟨_, rfl⟩
     have hmz : (l.length : Int) - 1 - (k : Int) = (m : Int) := by omega
     have hkm : (k : Int) < (m : Int) := by omega
     have hkl : (k : Int) < (l.length : Int) := by omega
     have hml : (m : Int) < (l.length : Int) := by omega
     obtain ⟨x, hx⟩ : ∃ x, L[k]? = some x := ⟨L[k]'(by omega), by simp⟩
     obtain ⟨y, hy⟩ : ∃ y, L[m]? = some y := ⟨L[m]'(by omega), by simp⟩
     have cx := hL.1 k x hx
     have cy := hL.1 m y hy
     have fx := hL.2 k
     have fy := hL.2 m
     have hne1 : ¬ k = m := by omega
     have hne2 : ¬ m = k := by omega
     have hx' := hid hx
     have hy' := hid hy
     have hm' := hid hm
     clear hx hy hm
     rw [hmz]
     go_wp2
     go_region
     all_goals go_wp2
     go_roundw
     case rel =>
       have hx := hx'.out
       have hy := hy'.out
       have hm := hm'.out
       have hk2 : k < L.length := by omega
       refine ⟨k + 1, (L.set k y).set m x, by go_num, by congr 1; omega, by omega, ((hL.set y (by omega)).set x (by simp; omega)).drew, by simp [hLl], ((hon.setCell _ _).setCell _ _).drew, hid fun q hq => ?_⟩
       have hHk := hH.out k (by omega)
       have hHm := hH.out m (by omega)
       rw [if_neg (by omega), hx] at hHk
       rw [if_neg (by omega), hy] at hHm
       by_cases hqm : q = m
       · subst hqm
         rw [List.getElem?_set_self (by simp; omega), if_pos (by omega), show l.length - 1 - q = k by omega, hHk]
       · rw [List.getElem?_set_ne (by omega)]
         by_cases hqk : q = k
         · subst hqk
           rw [List.getElem?_set_self (by omega), if_pos (by omega), show l.length - 1 - q = m by omega, hHm]
         · rw [List.getElem?_set_ne (by omega), hH.out q hq]
           by_cases hc : q < k ∨ l.length ≤ q + k
           · rw [if_pos hc, if_pos (by omega)]
           · rw [if_neg hc, if_neg (by omega)]
     case measure => simp [intOf]; omega
   · have h1z : ¬ (k : Int) < (l.length : Int) - 1 - (k : Int) := by omega
     have hLr : L = l.reverse := by
       refine List.ext_getElem? fun q => ?_
       by_cases hq : q < l.length
       · rw [hH.out q hq, List.getElem?_reverse hq]
         split
         · rfl
         · rw [show l.length - 1 - q = q by omega]
       · rw [List.getElem?_eq_none (by omega), List.getElem?_eq_none (by simp; omega)]
     clear hH
     go_wp2
     go_end0
     exact ⟨⟨_, rfl⟩, hLr ▸ hL, hon⟩
end Go.Proofs.YtlojfmlaookpmaaGreatDoor
