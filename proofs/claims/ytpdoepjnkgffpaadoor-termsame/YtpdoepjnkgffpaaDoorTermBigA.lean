/- Texts of mine, one behind the other: BigMath, BigKit, BigSum, BigAdd, BigSub, BigMul, BigOf, BigShrink, BigRev, BigText, BigRNorm, BigAwake, BigRPlus, BigRMinus, BigOpen, BigOrd, BigRAdd, BigRSub. -/
import Derived.WalkKit
import Derived.ProofKit
import Derived.OpenShut
import Derived.Laws.BitsAllLaws
import Derived.Test.YtpdoepjnkgffpaaDoorRows
import Derived.Below
import Derived.Deep.OwnRows
import Derived.Deep.QuietTactic
import Derived.BigQuiet
import Derived.Deep.RegionWith
import Derived.Deep.RegionHeld3
import Derived.Deep.CutRange
import Derived.Laws.AppendOwn
import Derived.Laws.AppendOwnNone
import Derived.Lib.SliceRun
import Derived.BigRegion
import Derived.Deep.LoopGhost
import Derived.Deep.AppendLies
import Derived.Laws.IdiomStrings
import Derived.Laws.OwnMore
import Derived.ChangeMaps5
import Derived.Lib.SmallJoins
import Derived.ChangeSlices
namespace Go.Proofs.YtpdoepjnkgffpaaDoor

/-- what digits of base b say, the lowest first -/
def gval (b : Nat) : List Nat → Nat
  | [] => 0
  | x :: t => x + b * gval b t
/-- the digits of base b of a number, the lowest first, the highest not 0 -/
def glim (b n : Nat) : List Nat :=
  if _h : b ≤ 1 ∨ n = 0 then [] else n % b :: glim b (n / b)
termination_by n
decreasing_by exact Nat.div_lt_self (by omega) (by omega)
/-- digits below the base -/
def Lm (b : Nat) (l : List Nat) : Prop := ∀ x ∈ l, x < b

theorem Lm.nil (b : Nat) : Lm b [] := fun _ h => by simp at h
theorem Lm.cons {b x : Nat} {l : List Nat} (hx : x < b) (h : Lm b l) : Lm b (x :: l) := fun y hy => by
  rcases List.mem_cons.1 hy with rfl | hy
  · exact hx
  · exact h y hy
theorem Lm.tail {b x : Nat} {l : List Nat} (h : Lm b (x :: l)) : Lm b l := fun y hy => h y (List.mem_cons_of_mem _ hy)
theorem Lm.head {b x : Nat} {l : List Nat} (h : Lm b (x :: l)) : x < b := h x (List.mem_cons_self ..)
theorem Lm.append {b : Nat} {l m : List Nat} (h : Lm b l) (h' : Lm b m) : Lm b (l ++ m) := fun y hy => by
  rcases List.mem_append.1 hy with hy | hy
  · exact h y hy
  · exact h' y hy
theorem Lm.left {b : Nat} {l m : List Nat} (h : Lm b (l ++ m)) : Lm b l := fun y hy => h y (List.mem_append_left _ hy)
theorem Lm.right {b : Nat} {l m : List Nat} (h : Lm b (l ++ m)) : Lm b m := fun y hy => h y (List.mem_append_right _ hy)
theorem Lm.take {b : Nat} {l : List Nat} (h : Lm b l) (k : Nat) : Lm b (l.take k) := fun y hy => h y (List.mem_of_mem_take hy)
theorem Lm.drop {b : Nat} {l : List Nat} (h : Lm b l) (k : Nat) : Lm b (l.drop k) := fun y hy => h y (List.mem_of_mem_drop hy)
theorem Lm.set {b : Nat} {l : List Nat} (h : Lm b l) (k x : Nat) (hx : x < b) : Lm b (l.set k x) := fun y hy => by
  rcases List.mem_or_eq_of_mem_set hy with hy | rfl
  · exact h y hy
  · exact hx
theorem Lm.at {b : Nat} {l : List Nat} (h : Lm b l) {k x : Nat} (hx : l[k]? = some x) : x < b := h x (List.mem_of_getElem? hx)
theorem Lm.replicate {b : Nat} (hb : 0 < b) (n : Nat) : Lm b (List.replicate n 0) := fun y hy => by
  rw [(List.mem_replicate.1 hy).2]; exact hb

theorem gval_append (b : Nat) : ∀ l m : List Nat, gval b (l ++ m) = gval b l + b ^ l.length * gval b m
  | [], m => by simp [gval]
  | x :: t, m => by
    simp only [List.cons_append, gval, List.length_cons]
    rw [gval_append b t m]
    grind
theorem gval_lt {b : Nat} : ∀ {l : List Nat}, Lm b l → gval b l < b ^ l.length
  | [], _ => by simp [gval]
  | x :: t, h => by
    have h1 := gval_lt h.tail
    have h2 := h.head
    simp only [gval, List.length_cons]
    have : b * (gval b t + 1) ≤ b * b ^ t.length := Nat.mul_le_mul_left _ h1
    rw [Nat.pow_succ, Nat.mul_comm (b ^ t.length) b]
    rw [Nat.mul_add] at this
    omega
theorem gval_zeros (b : Nat) : ∀ l : List Nat, (∀ x ∈ l, x = 0) → gval b l = 0
  | [], _ => rfl
  | x :: t, h => by
    rw [gval, gval_zeros b t (fun y hy => h y (List.mem_cons_of_mem _ hy)), h x (List.mem_cons_self ..)]
    simp
theorem gval_take_succ (b : Nat) {l : List Nat} {i x : Nat} (h : l[i]? = some x) : gval b (l.take (i + 1)) = gval b (l.take i) + b ^ i * x := by
  have hi : i < l.length := (List.getElem?_eq_some_iff.1 h).1
  have hx : l[i] = x := (List.getElem?_eq_some_iff.1 h).2
  rw [List.take_succ_eq_append_getElem hi, gval_append, hx]
  simp [gval, Nat.min_eq_left (Nat.le_of_lt hi)]
theorem gval_set_take (b : Nat) {l : List Nat} {i : Nat} (x : Nat) (h : i < l.length) : gval b ((l.set i x).take (i + 1)) = gval b (l.take i) + b ^ i * x := by
  rw [gval_take_succ b (x := x) (by simp [h])]
  rw [List.take_set_of_le (Nat.le_refl _)]
theorem gval_split (b k : Nat) (l : List Nat) (h : k ≤ l.length) : gval b l = gval b (l.take k) + b ^ k * gval b (l.drop k) := by
  have := gval_append b (l.take k) (l.drop k)
  rw [List.take_append_drop, List.length_take, Nat.min_eq_left h] at this
  exact this

theorem glim_zero (b : Nat) : glim b 0 = [] := by rw [glim]; simp
theorem glim_pos {b n : Nat} (hb : 1 < b) (hn : 0 < n) : glim b n = n % b :: glim b (n / b) := by
  rw [glim, dif_neg (by omega)]
theorem gval_glim {b : Nat} (hb : 1 < b) (n : Nat) : gval b (glim b n) = n := by
  induction n using Nat.strongRecOn with
  | ind n ih =>
    by_cases h : n = 0
    · subst h; rw [glim_zero]; rfl
    · rw [glim_pos hb (by omega), gval, ih _ (Nat.div_lt_self (by omega) hb)]
      exact Nat.mod_add_div n b
theorem lm_glim {b : Nat} (hb : 1 < b) (n : Nat) : Lm b (glim b n) := by
  induction n using Nat.strongRecOn with
  | ind n ih =>
    by_cases h : n = 0
    · subst h; rw [glim_zero]; exact Lm.nil _
    · rw [glim_pos hb (by omega)]
      exact Lm.cons (Nat.mod_lt _ (by omega)) (ih _ (Nat.div_lt_self (by omega) hb))
theorem glim_ne {b n : Nat} (hb : 1 < b) (hn : 0 < n) : glim b n ≠ [] := by rw [glim_pos hb hn]; simp
theorem glim_nil {b n : Nat} (hb : 1 < b) : glim b n = [] ↔ n = 0 := by
  constructor
  · intro h
    by_cases h0 : n = 0
    · exact h0
    · exact absurd h (glim_ne hb (by omega))
  · rintro rfl; exact glim_zero b
/-- canonical digits are those of their value -/
theorem glim_canon {b : Nat} (hb : 1 < b) : ∀ {l : List Nat}, Lm b l → (∀ x, l.getLast? = some x → x ≠ 0) → glim b (gval b l) = l
  | [], _, _ => glim_zero b
  | x :: t, h, hc => by
    have hx := h.head
    have hpos : 0 < gval b (x :: t) := by
      cases t with
      | nil =>
        have := hc x (by simp)
        simp [gval]; omega
      | cons y s =>
        have ih := glim_canon hb h.tail (fun z hz => hc z (by simpa using hz))
        have hv : 0 < gval b (y :: s) := by
          refine Nat.pos_of_ne_zero fun e => ?_
          rw [e, glim_zero] at ih; exact absurd ih (by simp)
        have : 0 < b * gval b (y :: s) := Nat.mul_pos (by omega) hv
        rw [gval]; omega
    have ih : glim b (gval b t) = t := by
      refine glim_canon hb h.tail fun z hz => hc z ?_
      cases t with
      | nil => simp at hz
      | cons y s => simpa using hz
    rw [glim_pos hb hpos]
    have e1 : gval b (x :: t) % b = x := by rw [gval, Nat.add_mul_mod_self_left]; exact Nat.mod_eq_of_lt hx
    have e2 : gval b (x :: t) / b = gval b t := by rw [gval, Nat.add_mul_div_left _ _ (by omega), Nat.div_eq_of_lt hx]; simp
    rw [e1, e2, ih]
/-- noughts at the end taken off -/
theorem glim_take {b : Nat} (hb : 1 < b) {l : List Nat} {k : Nat} (h : Lm b l) (hk : k ≤ l.length) (hz : ∀ j x, k ≤ j → l[j]? = some x → x = 0) (ht : k = 0 ∨ ∃ x, l[k - 1]? = some x ∧ x ≠ 0) : glim b (gval b l) = l.take k := by
  have hd : gval b (l.drop k) = 0 := by
    refine gval_zeros b _ fun x hx => ?_
    obtain ⟨j, hj⟩ := List.getElem?_of_mem hx
    rw [List.getElem?_drop] at hj
    exact hz _ x (by omega) hj
  have hv : gval b l = gval b (l.take k) := by rw [gval_split b k l hk, hd]; simp
  rw [hv]
  refine glim_canon hb (h.take k) fun x hx => ?_
  rcases ht with rfl | ⟨y, hy, hy0⟩
  · simp at hx
  · rw [List.getLast?_eq_getElem?, List.length_take, Nat.min_eq_left hk] at hx
    have hk0 : 0 < k := by
      rcases Nat.eq_zero_or_pos k with rfl | h
      · simp at hx
      · exact h
    rw [List.getElem?_take_of_lt (by omega), hy] at hx
    injection hx with hx; omega
/-- canonical digits are the first of any digits -/
theorem glim_is_take : ∀ {l : List Nat}, Lm 4294967296 l → ∃ k, k ≤ l.length ∧ glim 4294967296 (gval 4294967296 l) = l.take k := by
  intro l
  have key : ∀ n, n ≤ l.length → Lm 4294967296 l → (∀ j x, n ≤ j → l[j]? = some x → x = 0) → ∃ k, k ≤ l.length ∧ glim 4294967296 (gval 4294967296 l) = l.take k := by
    intro n
    induction n with
    | zero => intro _ h hz; exact ⟨0, by omega, glim_take (by omega) h (by omega) hz (.inl rfl)⟩
    | succ n ih =>
      intro hn h hz
      by_cases hx : l[n]'(by omega) = 0
      · refine ih (by omega) h fun j x hj hjx => ?_
        by_cases e : j = n
        · subst e; rw [List.getElem?_eq_getElem (by omega)] at hjx; injection hjx with hjx; omega
        · exact hz j x (by omega) hjx
      · exact ⟨n + 1, hn, glim_take (by omega) h hn hz (.inr ⟨l[n]'(by omega), by simp, hx⟩)⟩
  intro h
  exact key l.length (Nat.le_refl _) h fun j x hj hx => absurd (List.getElem?_eq_some_iff.1 hx).1 (by omega)
/-- canonical digits end in a digit that is not 0 -/
theorem glim_last {b : Nat} (hb : 1 < b) (n : Nat) (hn : 0 < n) : ∃ x, (glim b n)[(glim b n).length - 1]? = some x ∧ x ≠ 0 := by
  induction n using Nat.strongRecOn with
  | ind n ih =>
    by_cases h : n / b = 0
    · refine ⟨n % b, ?_, ?_⟩
      · rw [glim_pos hb hn, h, glim_zero]; rfl
      · rw [Nat.mod_eq_of_lt ((Nat.div_eq_zero_iff_lt (by omega)).1 h)]; omega
    · obtain ⟨x, hx, hx0⟩ := ih (n / b) (Nat.div_lt_self hn hb) (Nat.pos_of_ne_zero h)
      refine ⟨x, ?_, hx0⟩
      have hlen : 0 < (glim b (n / b)).length := List.length_pos_iff.2 (glim_ne hb (Nat.pos_of_ne_zero h))
      rw [glim_pos hb hn, List.length_cons]
      rw [show (glim b (n / b)).length + 1 - 1 = ((glim b (n / b)).length - 1) + 1 by omega, List.getElem?_cons_succ]
      exact hx
theorem glim_lt {b : Nat} (hb : 1 < b) (n : Nat) : n < b ^ (glim b n).length := by
  have := gval_lt (lm_glim hb n)
  rwa [gval_glim hb] at this
theorem glim_ge {b : Nat} (hb : 1 < b) {n : Nat} (hn : 0 < n) : b ^ ((glim b n).length - 1) ≤ n := by
  obtain ⟨x, hx, hx0⟩ := glim_last hb n hn
  have hlen : 0 < (glim b n).length := List.length_pos_iff.2 (glim_ne hb hn)
  have h := gval_take_succ b hx
  rw [show (glim b n).length - 1 + 1 = (glim b n).length by omega, List.take_length, gval_glim hb] at h
  have : b ^ ((glim b n).length - 1) * 1 ≤ b ^ ((glim b n).length - 1) * x := Nat.mul_le_mul_left _ (by omega)
  omega
theorem glim_len {b : Nat} (hb : 1 < b) (n k : Nat) : (glim b n).length ≤ k ↔ n < b ^ k := by
  constructor
  · intro h
    exact Nat.lt_of_lt_of_le (glim_lt hb n) (Nat.pow_le_pow_right (by omega) h)
  · intro h
    by_cases h0 : n = 0
    · subst h0; rw [glim_zero]; simp
    · have h1 := glim_ge hb (n := n) (by omega)
      have h2 : b ^ ((glim b n).length - 1) < b ^ k := Nat.lt_of_le_of_lt h1 h
      have := (Nat.pow_lt_pow_iff_right hb).1 h2
      omega
theorem glim_inj {b : Nat} (hb : 1 < b) {m n : Nat} (h : glim b m = glim b n) : m = n := by
  rw [← gval_glim hb m, h, gval_glim hb]
/-- the order of two rows of digits, by the highest place where they part -/
theorem gval_order {b : Nat} {l m : List Nat} {i x y : Nat} (hl : Lm b l) (hlen : l.length = m.length) (hd : l.drop (i + 1) = m.drop (i + 1)) (hx : l[i]? = some x) (hy : m[i]? = some y) (hxy : x < y) : gval b l < gval b m := by
  have hi : i < l.length := (List.getElem?_eq_some_iff.1 hx).1
  rw [gval_split b (i + 1) l (by omega), gval_split b (i + 1) m (by omega), hd, gval_take_succ b hx, gval_take_succ b hy]
  have h1 := gval_lt (hl.take i)
  rw [List.length_take, Nat.min_eq_left (by omega)] at h1
  have : b ^ i * (x + 1) ≤ b ^ i * y := Nat.mul_le_mul_left _ hxy
  rw [Nat.mul_add] at this
  omega
theorem glim_len_lt {b : Nat} (hb : 1 < b) {m n : Nat} (h : (glim b m).length < (glim b n).length) : m < n := by
  have hn : 0 < n := by
    refine Nat.pos_of_ne_zero fun e => ?_
    subst e; rw [glim_zero] at h; simp at h
  have h1 := glim_lt hb m
  have h2 := glim_ge hb hn
  have : b ^ (glim b m).length ≤ b ^ ((glim b n).length - 1) := Nat.pow_le_pow_right (by omega) (by omega)
  omega
end Go.Proofs.YtpdoepjnkgffpaaDoor
namespace Go.Proofs.YtpdoepjnkgffpaaDoor
open Go.ChangeShapes Go.WideShapes Go.ChangeAt Go.RowKit
set_option linter.unusedSimpArgs false
set_option linter.unusedVariables false
set_option maxRecDepth 2000
/-- a fact that the walk must not rewrite with -/
def Hid (p : Prop) : Prop := p
theorem hid {p : Prop} (h : p) : Hid p := h
theorem Hid.out {p : Prop} (h : Hid p) : p := h
/-- limbs in memory -/
def Lies (ao : Option Addr) (l : List Nat) (w : World) : Prop := ∀ (j x : Nat), l[j]? = some x → ∃ a, ao = some a ∧ w.cell? (a.add j) = some (.int .u32 (x : Int))
theorem Lies.below {ao : Option Addr} {l : List Nat} {w w' : World} (h : Lies ao l w) (hb : Below w.heap.size w w') : Lies ao l w' := fun j x hx => by
  obtain ⟨a, ha, hc⟩ := h j x hx
  exact ⟨a, ha, (hb.cell (World.block_lt_of_cell? _ _ hc)).trans hc⟩
theorem below_le {B C : Nat} {w w' : World} (h : Below C w w') (hBC : B ≤ C) : Below B w w' := ⟨h.os, h.tape, h.output, h.size, fun k hk => h.block k (by omega)⟩
theorem below_and {B : Nat} {w w' w'' : World} (h : Below B w w') (hB : B ≤ w.heap.size) (h' : Below w'.heap.size w' w'') : Below B w w'' := h.trans (below_le h' (Nat.le_trans hB h.size))
theorem info32u : (Tryd.prog.info? 42).map (fun i => (i.zero, i.size, i.bytes)) = some (some (.int .u32 0), 1, 4) := by kernel_rfl
theorem info8 : (Tryd.prog.info? 5).map (fun i => (i.zero, i.size, i.bytes)) = some (some (.int .u8 0), 1, 1) := by kernel_rfl
theorem info_parts {t : TypeId} {z : Value} {k b : Nat} (h : (Tryd.prog.info? t).map (fun i => (i.zero, i.size, i.bytes)) = some (some z, k, b)) : ∃ i, Tryd.prog.info? t = some i ∧ i.zero = some z ∧ i.size = k ∧ i.bytes = b := by
  cases hi : Tryd.prog.info? t with
  | none => rw [hi] at h; simp at h
  | some i =>
    rw [hi] at h
    simp only [Option.map_some, Option.some.injEq, Prod.mk.injEq] at h
    exact ⟨i, rfl, h.1, h.2.1, h.2.2⟩
/-- limbs in a block of the call's own, from its beginning on -/
def Own (g : Nat) (l : List Nat) (w : World) : Prop := (∀ (j x : Nat), l[j]? = some x → w.cell? ⟨g, j, none⟩ = some (.int .u32 (x : Int))) ∧ ∀ j, w.frozen? ⟨g, j, none⟩ = false
theorem addr_add (g o j : Nat) : (⟨g, o, none⟩ : Addr).add j = ⟨g, o + j, none⟩ := by
  unfold Addr.add; split
  · rename_i h; subst h; rfl
  · rfl
theorem Own.lies {g : Nat} {l : List Nat} {w : World} (h : Own g l w) : Lies (some ⟨g, 0, none⟩) l w := fun j x hx => ⟨_, rfl, by rw [addr_add, Nat.zero_add]; exact h.1 j x hx⟩
theorem Own.below {g : Nat} {l : List Nat} {w w' : World} (h : Own g l w) (hb : Below w.heap.size w w') (hg : g < w.heap.size) : Own g l w' :=
  ⟨fun j x hx => (hb.cell hg).trans (h.1 j x hx), fun j => by rw [World.frozen?_of_block (a := ⟨g, j, none⟩) (hb.block g hg)]; exact h.2 j⟩
theorem Own.set {g : Nat} {l : List Nat} {w : World} (h : Own g l w) {j : Nat} (x : Nat) (hj : j < l.length) : Own g (l.set j x) (w.setCell ⟨g, j, none⟩ (.int .u32 (x : Int))) := by
  have hc := h.1 j l[j] (by simp [hj])
  refine ⟨fun i y hy => ?_, fun i => ?_⟩
  · by_cases hij : j = i
    · subst hij
      rw [List.getElem?_set_self hj] at hy
      injection hy with hy; subst hy
      exact World.cell?_setCell_same _ _ _ hc
    · rw [List.getElem?_set_ne hij] at hy
      rw [World.cell?_setCell_other w ⟨g, j, none⟩ ⟨g, i, none⟩ _ (by simp [hij])]
      exact h.1 i y hy
  · have := World.frozen?_setCells g [Value.int .u32 (x : Int)] j w ⟨g, i, none⟩
    exact this.trans (h.2 i)
theorem Own.take {g : Nat} {l : List Nat} {w : World} (h : Own g l w) (k : Nat) : Own g (l.take k) w := by
  refine ⟨fun j x hx => h.1 j x ?_, h.2⟩
  rw [List.getElem?_take] at hx
  split at hx
  · exact hx
  · simp at hx
theorem Own.made (n : Nat) (w : World) : Own w.heap.size (List.replicate n 0) (w.alloc (.cells (madeCells #[.int .u32 0] n) 42)) := by
  refine ⟨fun j x hx => ?_, fun j => ?_⟩
  · rw [World.cell?_alloc_mark]
    rw [List.getElem?_replicate] at hx
    split at hx
    · rename_i hj
      injection hx with hx; subst hx
      have hsz : (madeCells #[Value.int .u32 0] n).size = n := size_madeCells _ _
      rw [Array.getElem?_eq_getElem (by omega)]
      simp [madeCells, Nat.mod_one]
    · simp at hx
  · rw [World.frozen?_alloc_mark]; simp
theorem Lies.take {ao : Option Addr} {l : List Nat} {w : World} (h : Lies ao l w) (k : Nat) : Lies ao (l.take k) w := fun j x hx => by
  rw [List.getElem?_take] at hx
  split at hx
  · exact h j x hx
  · simp at hx
/-- what a Num is worth -/
def sv (neg : Bool) (n : Nat) : Int := if neg then -(n : Int) else (n : Int)
/-- a Num of whatever form, of at most K limbs, that is worth Z -/
def IsN (v : Value) (Z : Int) (K : Nat) (w : World) : Prop := ∃ (neg : Bool) (o : Option Addr) (l : List Nat) (c : Nat), v = .agg #[.bool neg, .slice o l.length c] ∧ Lies o l w ∧ l.length ≤ c ∧ Lm 4294967296 l ∧ sv neg (gval 4294967296 l) = Z ∧ l.length ≤ K
/-- a Norm of at most K limbs that is worth Z -/
def IsC (v : Value) (Z : Int) (K : Nat) (w : World) : Prop := ∃ (o : Option Addr) (c : Nat), v = .agg #[.bool (decide (Z < 0)), .slice o (glim 4294967296 Z.natAbs).length c] ∧ Lies o (glim 4294967296 Z.natAbs) w ∧ (glim 4294967296 Z.natAbs).length ≤ c ∧ (glim 4294967296 Z.natAbs).length ≤ K
theorem IsC.isN {v : Value} {Z : Int} {K : Nat} {w : World} (h : IsC v Z K w) : IsN v Z K w := by
  obtain ⟨o, c, rfl, hL, hc, hK⟩ := h
  refine ⟨_, o, _, c, rfl, hL, hc, lm_glim (by omega) _, ?_, hK⟩
  rw [gval_glim (by omega)]
  unfold sv
  by_cases hz : Z < 0
  · simp only [hz, decide_true, if_true]; omega
  · simp only [hz, decide_false, Bool.false_eq_true, if_false]; omega
theorem IsN.below {v : Value} {Z : Int} {K : Nat} {w w' : World} (h : IsN v Z K w) (hb : Below w.heap.size w w') : IsN v Z K w' := by
  obtain ⟨neg, o, l, c, rfl, hL, rest⟩ := h
  exact ⟨neg, o, l, c, rfl, hL.below hb, rest⟩
theorem IsC.below {v : Value} {Z : Int} {K : Nat} {w w' : World} (h : IsC v Z K w) (hb : Below w.heap.size w w') : IsC v Z K w' := by
  obtain ⟨o, c, rfl, hL, rest⟩ := h
  exact ⟨o, c, rfl, hL.below hb, rest⟩
theorem IsN.mono {v : Value} {Z : Int} {K K' : Nat} {w : World} (h : IsN v Z K w) (hk : K ≤ K') : IsN v Z K' w := by
  obtain ⟨neg, o, l, c, rfl, hL, hc, hm, hs, hK⟩ := h
  exact ⟨neg, o, l, c, rfl, hL, hc, hm, hs, by omega⟩
theorem IsC.mono {v : Value} {Z : Int} {K K' : Nat} {w : World} (h : IsC v Z K w) (hk : K ≤ K') : IsC v Z K' w := by
  obtain ⟨o, c, rfl, hL, hc, hK⟩ := h
  exact ⟨o, c, rfl, hL, hc, by omega⟩
/-- a Norm by its sign and its size -/
theorem isC_of {neg : Bool} {n : Nat} {o : Option Addr} {c K : Nat} {w : World} {Z : Int} (hz : sv neg n = Z) (hL : Lies o (glim 4294967296 n) w) (hc : (glim 4294967296 n).length ≤ c) (hK : (glim 4294967296 n).length ≤ K) :
    IsC (.agg #[.bool (neg && decide (n ≠ 0)), .slice o (glim 4294967296 n).length c]) Z K w := by
  have e : Z.natAbs = n := by subst hz; unfold sv; cases neg <;> simp
  have e2 : (neg && decide (n ≠ 0)) = decide (Z < 0) := by
    subst hz; unfold sv
    cases neg
    · simp
    · by_cases hn : n = 0 <;> simp [hn]; omega
  refine ⟨o, c, ?_, ?_, ?_, ?_⟩
  · rw [e2, e]
  all_goals rw [e]; assumption
theorem gval_len {l : List Nat} (h : Lm 4294967296 l) : (glim 4294967296 (gval 4294967296 l)).length ≤ l.length := (glim_len (by omega) _ _).2 (gval_lt h)
set_option maxHeartbeats 1000000 in
theorem view_raw (neg : Bool) (ao : Option Addr) (cap : Nat) (l : List Nat) (w : World) (hl : Lm 4294967296 l) (hlen : l.length ≤ 1000000) (hcap : l.length ≤ cap) (h : Lies ao l w) :
    Calls Tryd.prog 81 #[.agg #[.bool neg, .slice ao l.length cap]] w fun e w' => ∃ ao' cap', e = .returned (.agg #[.bool (neg && decide (gval 4294967296 l ≠ 0)), .slice ao' (glim 4294967296 (gval 4294967296 l)).length cap']) ∧ (gval 4294967296 l = 0 → ao' = none ∧ cap' = 0) ∧ (gval 4294967296 l ≠ 0 → ao' = ao ∧ cap' = cap) ∧ Lies ao' (glim 4294967296 (gval 4294967296 l)) w ∧ Below w.heap.size w w' := by
  go_enter Tryd.func81, Tryd.ntmps81
  go_wp2
  go_loopw [3] (fun v wr => ∃ k : Nat, v = .int .i64 (k : Int) ∧ k ≤ l.length ∧ wr = ((w.alloc (Obj.cells #[Value.bool neg, Value.slice ao l.length cap] 72)).alloc (Obj.cells #[Value.bool false, Value.slice none 0 0] 72)) ∧ Hid (∀ j x, k ≤ j → l[j]? = some x → x = 0)) (fun v _ => (intOf v).toNat)
  case atStart => exact ⟨l.length, rfl, Nat.le_refl _, rfl, hid fun j x hj hx => absurd (List.getElem?_eq_some_iff.1 hx).1 (by omega)⟩
  case round =>
    obtain ⟨k, rfl, hk, rfl, hH⟩ := hrel
    by_cases h0 : k = 0
    · subst h0
      have hg : Hid (gval 4294967296 l = 0) := hid (gval_zeros _ _ fun x hx => by
        obtain ⟨j, hj⟩ := List.getElem?_of_mem hx
        exact hH.out j x (Nat.zero_le _) hj)
      go_wp2
      refine bodyPost_ret (v := .agg #[.bool false, .slice none 0 0]) (by simp [results, Tryd.results81, go_sem]) rfl ⟨none, 0, ?_, fun _ => ⟨rfl, rfl⟩, fun e => absurd hg.out e, ?_, ?_⟩
      · rw [hg.out, glim_zero]; simp
      · rw [hg.out, glim_zero]; intro j x hx; simp at hx
      · exact ((Below.refl _ w).alloc (Nat.le_refl _) _).alloc (by simp) _
    · obtain ⟨m, rfl⟩ : ∃ m, k = m + 1 := ⟨k - 1, by omega⟩
      obtain ⟨x, hx⟩ : ∃ x, l[m]? = some x := ⟨l[m]'(by omega), by simp⟩
      obtain ⟨a, rfl, hc⟩ := h m x hx
      have e1 : (((m + 1 : Nat) : Int) - 1) = (m : Int) := by omega
      have hml : (m : Int) < (l.length : Int) := by omega
      have hpos : (0 : Int) < ((m + 1 : Nat) : Int) := by omega
      have cx : ((w.alloc (Obj.cells #[Value.bool neg, Value.slice (some a) l.length cap] 72)).alloc (Obj.cells #[Value.bool false, Value.slice none 0 0] 72)).cell? (a.add m) = some (.int .u32 (x : Int)) :=
        ((((Below.refl w.heap.size w).alloc (Nat.le_refl _) _).alloc (by simp) _).cell (World.block_lt_of_cell? _ _ hc)).trans hc
      by_cases hx0 : x = 0
      · subst hx0
        go_wp2
        go_roundw
        case rel =>
          refine ⟨m, by go_num, by omega, trivial, hid fun j y hj hy => ?_⟩
          by_cases hjm : j = m
          · subst hjm; rw [hx] at hy; injection hy with hy; exact hy.symm
          · exact hH.out j y (by omega) hy
        case measure => simp [intOf]
      · have hxz : ((x : Int) == 0) = false := by simp only [beq_eq_false_iff_ne, ne_eq]; omega
        have hmc : ((m + 1 : Nat) : Int) ≤ (cap : Int) := by omega
        have hne : Hid (gval 4294967296 l ≠ 0) := hid fun e => by
          have h1 := gval_split 4294967296 (m + 1) l hk
          rw [gval_take_succ _ hx] at h1
          have : 0 < 4294967296 ^ m * x := Nat.mul_pos (Nat.pow_pos (by omega)) (by omega)
          omega
        have hgl : Hid (glim 4294967296 (gval 4294967296 l) = l.take (m + 1)) := hid (glim_take (by omega) hl hk hH.out (.inr ⟨x, by simpa using hx, hx0⟩))
        go_wp2
        clear hxz hpos e1 hml cx
        go_region
        all_goals go_wp2
        refine bodyPost_ret (v := .agg #[.bool neg, .slice (some a) (m + 1) cap]) (by simp [results, Tryd.results81, go_sem]) rfl ⟨some a, cap, ?_, fun e => absurd e hne.out, fun _ => ⟨rfl, rfl⟩, ?_, ?_⟩
        · have hz := hne.out
          rw [hgl.out, List.length_take, Nat.min_eq_left hk]; simp [hz]
        · rw [hgl.out]; intro j y hy
          rw [List.getElem?_take] at hy
          split at hy
          · exact h j y hy
          · simp at hy
        · exact (((Below.refl _ w).alloc (Nat.le_refl _) _).alloc (by simp) _).drew
/-- of a value: the same number, as a Norm, on the same limbs -/
theorem view_w (v : Value) (Z : Int) (K : Nat) (w : World) (hK : K ≤ 1000000) (h : IsN v Z K w) :
    Calls Tryd.prog 81 #[v] w fun e w' => ∃ v', e = .returned v' ∧ (∀ u, IsN v Z K u → IsC v' Z K u) ∧ Below w.heap.size w w' := by
  obtain ⟨neg, o, l, c, rfl, hL, hc, hm, hs, hk⟩ := h
  refine (view_raw neg o c l w hm (by omega) hc hL).mono ?_
  rintro e w' ⟨ao', cap', rfl, h0, h1, h2, h3⟩
  have hle := gval_len hm
  refine ⟨_, rfl, fun u hu => ?_, h3⟩
  refine isC_of hs ?_ ?_ (by omega)
  · by_cases hz : gval 4294967296 l = 0
    · rw [hz, glim_zero]; intro j x hx; simp at hx
    · rw [(h1 hz).1]
      obtain ⟨neg', o', l', c', e1, hL', hc', hm', hs', hk'⟩ := hu
      simp only [Value.agg.injEq, Array.mk.injEq, List.cons.injEq, Value.bool.injEq, Value.slice.injEq, and_true] at e1
      obtain ⟨rfl, rfl, hll, rfl⟩ := e1
      have hg : gval 4294967296 l' = gval 4294967296 l := by
        rw [← hs'] at hs; unfold sv at hs; cases neg <;> simp at hs <;> omega
      have ht : glim 4294967296 (gval 4294967296 l') = l'.take (glim 4294967296 (gval 4294967296 l')).length := by
        obtain ⟨k, hk1, hk2⟩ := glim_is_take hm'
        rw [hk2, List.length_take]
        congr 1; omega
      rw [← hg, ht]
      exact hL'.take _
  · by_cases hz : gval 4294967296 l = 0
    · rw [hz, glim_zero]; simp
    · rw [(h1 hz).2]; omega
/-- a struct of two fields in a block of the call's own -/
def Box (g : Nat) (u v : Value) (w : World) : Prop := w.cell? ⟨g, 0, none⟩ = some u ∧ w.cell? ⟨g, 1, none⟩ = some v ∧ w.frozen? ⟨g, 0, none⟩ = false ∧ w.frozen? ⟨g, 1, none⟩ = false
theorem Box.below {g B : Nat} {u v : Value} {w w' : World} (h : Box g u v w) (hb : Below B w w') (hg : g < B) : Box g u v w' :=
  ⟨(hb.cell hg).trans h.1, (hb.cell hg).trans h.2.1, (World.frozen?_of_block (a := ⟨g, 0, none⟩) (hb.block g hg)).trans h.2.2.1, (World.frozen?_of_block (a := ⟨g, 1, none⟩) (hb.block g hg)).trans h.2.2.2⟩
theorem Box.new (w : World) (u v : Value) (t : TypeId) : Box w.heap.size u v (w.alloc (.cells #[u, v] t)) :=
  ⟨by rw [World.cell?_alloc_mark]; rfl, by rw [World.cell?_alloc_mark]; rfl, by rw [World.frozen?_alloc_mark]; simp, by rw [World.frozen?_alloc_mark]; simp⟩
theorem Box.alloc {g : Nat} {u v : Value} {w : World} (h : Box g u v w) (o : Obj) (hg : g < w.heap.size) : Box g u v (w.alloc o) := h.below ((Below.refl w.heap.size w).alloc (Nat.le_refl _) o) hg
theorem Box.drew {g : Nat} {u v : Value} {w : World} (h : Box g u v w) : Box g u v w.drew := h
theorem cutW {P : Program} {c : Code} {Q : Exit → Act → World → Prop} {a : Act} {W0 : World} (S : World → Prop) (h1 : S W0) (h : ∀ W, S W → Code.wp P c Q a W) : Code.wp P c Q a W0 := h W0 h1
/-- three boxes, newly made -/
theorem boxes3 (w : World) (a0 a1 b0 b1 c0 c1 : Value) (ta tb tc : TypeId) :
    Box w.heap.size a0 a1 (((w.alloc (.cells #[a0, a1] ta)).alloc (.cells #[b0, b1] tb)).alloc (.cells #[c0, c1] tc)) ∧ Box (w.heap.size + 1) b0 b1 (((w.alloc (.cells #[a0, a1] ta)).alloc (.cells #[b0, b1] tb)).alloc (.cells #[c0, c1] tc)) ∧ Box (w.heap.size + 1 + 1) c0 c1 (((w.alloc (.cells #[a0, a1] ta)).alloc (.cells #[b0, b1] tb)).alloc (.cells #[c0, c1] tc)) ∧ Below w.heap.size w (((w.alloc (.cells #[a0, a1] ta)).alloc (.cells #[b0, b1] tb)).alloc (.cells #[c0, c1] tc)) ∧ (((w.alloc (.cells #[a0, a1] ta)).alloc (.cells #[b0, b1] tb)).alloc (.cells #[c0, c1] tc)).heap.size = w.heap.size + 3 := by
  refine ⟨((Box.new w a0 a1 ta).alloc _ (by simp)).alloc _ (by simp; omega), ?_, ?_, (((Below.refl _ w).alloc (Nat.le_refl _) _).alloc (by simp) _).alloc (by simp; omega) _, by simp⟩
  · have := Box.new (w.alloc (.cells #[a0, a1] ta)) b0 b1 tb
    simp only [World.size_alloc] at this
    exact this.alloc _ (by simp)
  · have := Box.new ((w.alloc (.cells #[a0, a1] ta)).alloc (.cells #[b0, b1] tb)) c0 c1 tc
    simp only [World.size_alloc] at this
    exact this
end Go.Proofs.YtpdoepjnkgffpaaDoor
namespace Go.Proofs.YtpdoepjnkgffpaaDoor
open Go.ChangeShapes Go.WideShapes Go.ChangeAt Go.RowKit
set_option linter.unusedSimpArgs false
set_option linter.unusedVariables false
set_option maxRecDepth 2000

theorem pow_step (i : Nat) : (4294967296 : Nat) ^ (i + 1) = 4294967296 ^ i * 4294967296 := Nat.pow_succ ..
/-- one place of a sum: what is written and what is carried -/
theorem sum_step {P S T U c x y s : Nat} (hs : c + x + y = s) (h : S + P * c = T + U) : S + P * (s % 4294967296) + (P * 4294967296) * (s / 4294967296) = (T + P * x) + (U + P * y) := by
  have e : P * s = P * c + P * x + P * y := by rw [← hs, Nat.mul_add, Nat.mul_add]
  have e2 : P * s = P * (s % 4294967296) + (P * 4294967296) * (s / 4294967296) := by
    rw [Nat.mul_assoc, ← Nat.mul_add, Nat.mod_add_div]
  omega
/-- one place of a difference -/
theorem dif_step (x t : Nat) (hx : x < 4294967296) (ht : t ≤ 4294967296) : ∃ D r q : Nat, IntKind.u64.wrap ((x : Int) - (t : Int)) = (D : Int) ∧ IntKind.u32.wrap (D : Int) = (r : Int) ∧ (D : Int) / 9223372036854775808 = (q : Int) ∧ r + t = x + 4294967296 * q ∧ q ≤ 1 ∧ r < 4294967296 := by
  by_cases h : t ≤ x
  · exact ⟨x - t, x - t, 0, by rw [IntKind.wrap_u64]; omega, by rw [IntKind.wrap_u32]; omega, by omega, by omega, by omega, by omega⟩
  · exact ⟨18446744073709551616 + x - t, 4294967296 + x - t, 1, by rw [IntKind.wrap_u64]; omega, by rw [IntKind.wrap_u32]; omega, by omega, by omega, by omega, by omega⟩
theorem dif_sum {P S T U b t y x r q : Nat} (hb : b + y = t) (hr : r + t = x + 4294967296 * q) (h : S + U = T + P * b) : S + P * r + (U + P * y) = T + P * x + P * 4294967296 * q := by
  have e1 : P * t = P * b + P * y := by rw [← hb, Nat.mul_add]
  have e2 : P * r + P * t = P * x + P * 4294967296 * q := by rw [← Nat.mul_add, hr, Nat.mul_add, Nat.mul_assoc]
  omega
/-- -1, 0, 1 -/
def cmpZ (x y : Int) : Int := if x < y then -1 else if y < x then 1 else 0
theorem isNaN_w (x : Int) (w : World) : Calls Tryd.prog 93 #[.int .i64 x] w fun e w' => e = .returned (.bool false) ∧ w' = w := by
  go_enter Tryd.func93, Tryd.ntmps93
  go_wp2
  go_ret
  exact ⟨by simp, rfl⟩
theorem isNaNu_w (x : Int) (w : World) : Calls Tryd.prog 105 #[.int .u32 x] w fun e w' => e = .returned (.bool false) ∧ w' = w := by
  go_enter Tryd.func105, Tryd.ntmps105
  go_wp2
  go_ret
  exact ⟨by simp, rfl⟩
theorem cmpi_w (x y : Int) (w : World) : Calls Tryd.prog 75 #[.int .i64 x, .int .i64 y] w fun e w' => e = .returned (.int .i64 (cmpZ x y)) ∧ w' = w := by
  unfold cmpZ
  by_cases h1 : x < y
  · go_enter Tryd.func75, Tryd.ntmps75
    go_wp2_with (go_at_call 93; refine (isNaN_w _ _).mono ?_; rintro e w1 ⟨rfl, rfl⟩)
    go_ret
    exact ⟨by simp [h1], rfl⟩
  · by_cases h2 : y < x
    · go_enter Tryd.func75, Tryd.ntmps75
      go_wp2_with (go_at_call 93; refine (isNaN_w _ _).mono ?_; rintro e w1 ⟨rfl, rfl⟩)
      go_ret
      exact ⟨by simp [h1, h2], rfl⟩
    · go_enter Tryd.func75, Tryd.ntmps75
      go_wp2_with (go_at_call 93; refine (isNaN_w _ _).mono ?_; rintro e w1 ⟨rfl, rfl⟩)
      go_ret
      exact ⟨by simp [h1, h2], rfl⟩
theorem cmpu_w (x y : Int) (w : World) : Calls Tryd.prog 100 #[.int .u32 x, .int .u32 y] w fun e w' => e = .returned (.int .i64 (cmpZ x y)) ∧ w' = w := by
  unfold cmpZ
  by_cases h1 : x < y
  · go_enter Tryd.func100, Tryd.ntmps100
    go_wp2_with (go_at_call 105; refine (isNaNu_w _ _).mono ?_; rintro e w1 ⟨rfl, rfl⟩)
    go_ret
    exact ⟨by simp [h1], rfl⟩
  · by_cases h2 : y < x
    · go_enter Tryd.func100, Tryd.ntmps100
      go_wp2_with (go_at_call 105; refine (isNaNu_w _ _).mono ?_; rintro e w1 ⟨rfl, rfl⟩)
      go_ret
      exact ⟨by simp [h1, h2], rfl⟩
    · go_enter Tryd.func100, Tryd.ntmps100
      go_wp2_with (go_at_call 105; refine (isNaNu_w _ _).mono ?_; rintro e w1 ⟨rfl, rfl⟩)
      go_ret
      exact ⟨by simp [h1, h2], rfl⟩
theorem cmpZ_lt {x y : Int} (h : x < y) : cmpZ x y = -1 := by unfold cmpZ; rw [if_pos h]
theorem cmpZ_gt {x y : Int} (h : y < x) : cmpZ x y = 1 := by unfold cmpZ; rw [if_neg (by omega), if_pos h]
theorem cmpZ_eq (x : Int) : cmpZ x x = 0 := by unfold cmpZ; rw [if_neg (by omega), if_neg (by omega)]
theorem glim_cmp_len {m n : Nat} (h : (glim 4294967296 m).length ≠ (glim 4294967296 n).length) : cmpZ (m : Int) (n : Int) = cmpZ ((glim 4294967296 m).length : Int) ((glim 4294967296 n).length : Int) := by
  rcases Nat.lt_or_gt_of_ne h with h | h
  · have := glim_len_lt (by omega) h
    rw [cmpZ_lt (by omega), cmpZ_lt (by omega)]
  · have := glim_len_lt (by omega) h
    rw [cmpZ_gt (by omega), cmpZ_gt (by omega)]
theorem glim_cmp_at {m n i x y : Nat} (hlen : (glim 4294967296 m).length = (glim 4294967296 n).length) (hd : (glim 4294967296 m).drop (i + 1) = (glim 4294967296 n).drop (i + 1)) (hx : (glim 4294967296 m)[i]? = some x) (hy : (glim 4294967296 n)[i]? = some y) (hxy : x ≠ y) : cmpZ (m : Int) (n : Int) = cmpZ (x : Int) (y : Int) := by
  rcases Nat.lt_or_gt_of_ne hxy with h | h
  · have := gval_order (lm_glim (by omega) m) hlen hd hx hy h
    rw [gval_glim (by omega), gval_glim (by omega)] at this
    rw [cmpZ_lt (by omega), cmpZ_lt (by omega)]
  · have := gval_order (lm_glim (by omega) n) hlen.symm hd.symm hy hx h
    rw [gval_glim (by omega), gval_glim (by omega)] at this
    rw [cmpZ_gt (by omega), cmpZ_gt (by omega)]
theorem below_drewNv {B : Nat} {a w : World} (h : Below B a w) (n : Nat) : Below B a (w.drewN n) := by
  induction n with
  | zero => exact h
  | succ n ih => exact ih.drew
set_option maxHeartbeats 1000000 in
theorem compare_w (oa ob : Option Addr) (ca cb : Nat) (m n : Nat) (w : World) (za : (glim 4294967296 m).length ≤ 1000000) (zb : (glim 4294967296 n).length ≤ 1000000) (ha : Lies oa (glim 4294967296 m) w) (hb : Lies ob (glim 4294967296 n) w) :
    Calls Tryd.prog 87 #[.slice oa (glim 4294967296 m).length ca, .slice ob (glim 4294967296 n).length cb] w fun e w' => e = .returned (.int .i64 (cmpZ (m : Int) (n : Int))) ∧ Below w.heap.size w w' := by
  obtain ⟨R, hR⟩ : ∃ R, cmpZ (m : Int) (n : Int) = R := ⟨_, rfl⟩
  rw [hR]
  have hlen' := glim_cmp_len (m := m) (n := n)
  have hat := fun i x y => glim_cmp_at (m := m) (n := n) (i := i) (x := x) (y := y)
  have heq : glim 4294967296 m = glim 4294967296 n → R = 0 := fun e => by
    have := glim_inj (by omega) e
    subst this; rw [← hR, cmpZ_eq]
  rw [hR] at hlen' hat
  generalize glim 4294967296 m = X at *
  generalize glim 4294967296 n = Y at *
  have hlen := hid hlen'
  clear hlen' hR
  by_cases hl : X.length = Y.length
  · have hlz : ((X.length : Int) != (Y.length : Int)) = false := by simp only [bne_eq_false_iff_eq]; omega
    go_enter Tryd.func87, Tryd.ntmps87
    go_wp2
    clear hlz
    go_loopw [5] (fun i wr => ∃ (k : Nat), i = .int .i64 ((k : Int) - 1) ∧ k ≤ X.length ∧ Below w.heap.size w wr ∧ Hid (X.drop k = Y.drop k)) (fun i _ => (intOf i + 1).toNat)
    case atStart => exact ⟨X.length, by go_num, Nat.le_refl _, Below.refl _ _, hid (by rw [List.drop_of_length_le (by omega), List.drop_of_length_le (by omega)])⟩
    case round =>
      obtain ⟨k, rfl, hk, hbw, hH⟩ := hrel
      by_cases h0 : k = 0
      · subst h0
        have hz := heq (by simpa using hH.out)
        go_wp2
        go_ret
        exact ⟨by rw [hz]; rfl, hbw⟩
      · obtain ⟨j, rfl⟩ : ∃ j, k = j + 1 := ⟨k - 1, by omega⟩
        obtain ⟨x, hx⟩ : ∃ x, X[j]? = some x := ⟨X[j]'(by omega), by simp⟩
        obtain ⟨y, hy⟩ : ∃ y, Y[j]? = some y := ⟨Y[j]'(by omega), by simp⟩
        obtain ⟨a, rfl, cx⟩ := (ha.below hbw) j x hx
        obtain ⟨b, rfl, cy⟩ := (hb.below hbw) j y hy
        have e1 : (((j + 1 : Nat) : Int) - 1) = (j : Int) := by omega
        have hjx : (j : Int) < (X.length : Int) := by omega
        have hjy : (j : Int) < (Y.length : Int) := by omega
        rw [e1]
        by_cases hxy : x = y
        · subst hxy
          have hdn : Hid (X.drop j = Y.drop j) := hid (by
            rw [List.drop_eq_getElem_cons (by omega : j < X.length), List.drop_eq_getElem_cons (by omega : j < Y.length), hH.out]
            congr 1
            rw [List.getElem?_eq_getElem (by omega)] at hx hy
            injection hx with hx; injection hy with hy; rw [hx, hy])
          go_wp2
          go_quiet (fail)
          go_wp2
          go_roundw
          case rel => exact ⟨j, by go_num, by omega, below_drewNv hbw _, hdn⟩
          case measure => simp [intOf]
        · have hxz : ((x : Int) != (y : Int)) = true := by simp only [bne_iff_ne, ne_eq]; omega
          have hres := hid (hat j x y hl hH.out hx hy hxy)
          clear hat heq
          go_wp2
          go_quiet (fail)
          have hbw' := below_drewNv hbw nq
          obtain ⟨a', ea, cx'⟩ := (ha.below hbw') j x hx
          obtain ⟨b', eb, cy'⟩ := (hb.below hbw') j y hy
          cases ea; cases eb
          clear cx cy hbw
          generalize wr.drewN nq = wq at *
          go_wp2
          go_quiet ((go_at_call 100; exact Calls.quiet_of_same (cmpu_w _ _ _)))
          go_wp2
          go_ret
          exact ⟨by rw [hres.out]; rfl, below_drewNv hbw' _⟩
  · have hlz : ((X.length : Int) != (Y.length : Int)) = true := by simp only [bne_iff_ne, ne_eq]; omega
    go_enter Tryd.func87, Tryd.ntmps87
    go_wp2_with fail
    refine (cmpi_w _ _ _).mono ?_
    rintro e w1 ⟨rfl, rfl⟩
    go_wp2
    go_ret
    exact ⟨by rw [hlen.out hl]; rfl, Below.refl _ _⟩
end Go.Proofs.YtpdoepjnkgffpaaDoor
namespace Go.Proofs.YtpdoepjnkgffpaaDoor
open Go.ChangeShapes Go.WideShapes Go.ChangeAt Go.RowKit
set_option linter.unusedSimpArgs false
set_option linter.unusedVariables false
set_option maxRecDepth 2000

theorem frozen_set (w : World) (p : Addr) (hp : p.spot = none) (v : Value) (a : Addr) : (w.setCell p v).frozen? a = w.frozen? a := by
  obtain ⟨g, o, sp⟩ := p
  simp only at hp; subst hp
  exact World.frozen?_setCells g [v] o w a
theorem Box.put {g : Nat} {u v u' v' : Value} {w : World} (h : Box g u v w) : Box g u' v' ((w.setCell ⟨g, 0, none⟩ u').setCell ⟨g, 1, none⟩ v') := by
  refine ⟨?_, ?_, ?_, ?_⟩
  · rw [World.cell?_setCell_other _ _ ⟨g, 0, none⟩ _ (by simp)]
    exact World.cell?_setCell_same _ _ _ h.1
  · refine World.cell?_setCell_same _ _ (u := v) _ ?_
    rw [World.cell?_setCell_other _ _ ⟨g, 1, none⟩ _ (by simp)]
    exact h.2.1
  · rw [frozen_set _ _ rfl, frozen_set _ _ rfl]; exact h.2.2.1
  · rw [frozen_set _ _ rfl, frozen_set _ _ rfl]; exact h.2.2.2
theorem Box.far {g k : Nat} {u v x y : Value} {w : World} (h : Box g u v w) (hne : g ≠ k) : Box g u v ((w.setCell ⟨k, 0, none⟩ x).setCell ⟨k, 1, none⟩ y) := by
  refine ⟨?_, ?_, ?_, ?_⟩
  · rw [World.cell?_setCell_other _ _ ⟨g, 0, none⟩ _ (by simp), World.cell?_setCell_other _ _ ⟨g, 0, none⟩ _ (by simp; try omega)]; exact h.1
  · rw [World.cell?_setCell_other _ _ ⟨g, 1, none⟩ _ (by simp; try omega), World.cell?_setCell_other _ _ ⟨g, 1, none⟩ _ (by simp)]; exact h.2.1
  · rw [frozen_set _ _ rfl, frozen_set _ _ rfl]; exact h.2.2.1
  · rw [frozen_set _ _ rfl, frozen_set _ _ rfl]; exact h.2.2.2
theorem Lies.set {o : Option Addr} {l : List Nat} {w : World} (h : Lies o l w) {p : Addr} {v : Value} (hp : w.cell? p = some v) (hv : ∀ n, v ≠ .int .u32 n) (x : Value) : Lies o l (w.setCell p x) := fun j y hy => by
  obtain ⟨a, ha, hc⟩ := h j y hy
  refine ⟨a, ha, ?_⟩
  rw [World.cell?_setCell_other _ _ _ _ (fun e => ?_)]
  · exact hc
  · rw [← e, hp] at hc
    injection hc with hc; exact hv _ hc
theorem Lies.box {o : Option Addr} {l : List Nat} {w : World} (h : Lies o l w) {g : Nat} {b : Bool} {o' : Option Addr} {n c : Nat} (hb : Box g (.bool b) (.slice o' n c) w) (x y : Value) : Lies o l ((w.setCell ⟨g, 0, none⟩ x).setCell ⟨g, 1, none⟩ y) := by
  refine (h.set hb.1 (fun _ => by simp) x).set (v := .slice o' n c) ?_ (fun _ => by simp) y
  rw [World.cell?_setCell_other _ _ ⟨g, 1, none⟩ _ (by simp)]
  exact hb.2.1
theorem IsC.box {v : Value} {Z : Int} {K : Nat} {w : World} (h : IsC v Z K w) {g : Nat} {b : Bool} {o' : Option Addr} {n c : Nat} (hb : Box g (.bool b) (.slice o' n c) w) {x y : Value} : IsC v Z K ((w.setCell ⟨g, 0, none⟩ x).setCell ⟨g, 1, none⟩ y) := by
  obtain ⟨o, c, rfl, hL, hc, hK⟩ := h
  exact ⟨o, c, rfl, hL.box hb x y, hc, hK⟩
/-- two Norms, laid where the parameters lay -/
def Two (X Y : Int) (K : Nat) (w wx : World) : Prop := ∃ o1 c1 o2 c2, Box w.heap.size (.bool (decide (X < 0))) (.slice o1 (glim 4294967296 X.natAbs).length c1) wx ∧ Box (w.heap.size + 1) (.bool (decide (Y < 0))) (.slice o2 (glim 4294967296 Y.natAbs).length c2) wx ∧ Lies o1 (glim 4294967296 X.natAbs) wx ∧ Lies o2 (glim 4294967296 Y.natAbs) wx ∧ (glim 4294967296 X.natAbs).length ≤ c1 ∧ (glim 4294967296 Y.natAbs).length ≤ c2 ∧ (glim 4294967296 X.natAbs).length ≤ K ∧ (glim 4294967296 Y.natAbs).length ≤ K
/-- what else there was is as it was -/
def After (w W0 wx : World) : Prop := (∀ g u v, w.heap.size + 2 ≤ g → g < W0.heap.size → Box g u v W0 → Box g u v wx) ∧ W0.heap.size ≤ wx.heap.size ∧ Below w.heap.size w wx
theorem after_put {w W0 w2 : World} {a0 a1 b0 b1 : Value} (hB0 : Below w.heap.size w W0) (hz : w.heap.size + 2 ≤ W0.heap.size) (hb : Below W0.heap.size W0 w2) :
    After w W0 ((((w2.setCell ⟨w.heap.size, 0, none⟩ a0).setCell ⟨w.heap.size, 1, none⟩ a1).setCell ⟨w.heap.size + 1, 0, none⟩ b0).setCell ⟨w.heap.size + 1, 1, none⟩ b1) := by
  refine ⟨fun g u v hg hgw h => ((h.below hb hgw).far (by omega)).far (by omega), ?_, ?_⟩
  · have := hb.size; simpa using this
  · exact (((((hB0.trans (below_le hb (by omega))).setCell (p := ⟨w.heap.size, 0, none⟩) (Nat.le_refl _) _).setCell (p := ⟨w.heap.size, 1, none⟩) (Nat.le_refl _) _).setCell (p := ⟨w.heap.size + 1, 0, none⟩) (by simp) _).setCell (p := ⟨w.heap.size + 1, 1, none⟩) (by simp) _)
theorem boxes_put {w W0 w2 : World} {a0 a1 b0 b1 x0 x1 y0 y1 : Value} (kA : Box w.heap.size x0 x1 W0) (kB : Box (w.heap.size + 1) y0 y1 W0) (hz : w.heap.size + 2 ≤ W0.heap.size) (hb : Below W0.heap.size W0 w2) :
    Box w.heap.size a0 a1 ((((w2.setCell ⟨w.heap.size, 0, none⟩ a0).setCell ⟨w.heap.size, 1, none⟩ a1).setCell ⟨w.heap.size + 1, 0, none⟩ b0).setCell ⟨w.heap.size + 1, 1, none⟩ b1) ∧ Box (w.heap.size + 1) b0 b1 ((((w2.setCell ⟨w.heap.size, 0, none⟩ a0).setCell ⟨w.heap.size, 1, none⟩ a1).setCell ⟨w.heap.size + 1, 0, none⟩ b0).setCell ⟨w.heap.size + 1, 1, none⟩ b1) :=
  ⟨((kA.below hb (by omega)).put).far (by omega), ((kB.below hb (by omega)).far (by omega)).put⟩
theorem Lies.drew {o : Option Addr} {l : List Nat} {w : World} (h : Lies o l w) : Lies o l w.drew := h
theorem below_of_drew {w w' : World} (h : Below w.drew.heap.size w.drew w') : Below w.heap.size w w' := ((Below.refl _ w).drew).trans h
theorem own_isN {g : Nat} {L : List Nat} {w : World} (s : Bool) {K n : Nat} (h : Own g L w) (hm : Lm 4294967296 L) (hn : gval 4294967296 L = n) (hk : L.length ≤ K) : IsN (.agg #[.bool s, .slice (some ⟨g, 0, none⟩) L.length L.length]) (sv s n) K w :=
  ⟨s, _, L, _, rfl, h.lies, Nat.le_refl _, hm, by rw [hn], hk⟩
/-- a slice of limbs that is worth n -/
def Sl (sl : Value) (n K : Nat) (w : World) : Prop := ∀ s, IsN (.agg #[.bool s, sl]) (sv s n) K w
theorem Sl.below {sl : Value} {n K : Nat} {w w' : World} (h : Sl sl n K w) (hb : Below w.heap.size w w') : Sl sl n K w' := fun s => (h s).below hb
theorem sv_add_same {X Y : Int} (h : decide (X < 0) = decide (Y < 0)) : sv (decide (X < 0)) (X.natAbs + Y.natAbs) = X + Y := by
  unfold sv
  by_cases hx : X < 0
  · have hy : Y < 0 := by simpa [hx] using h
    simp only [hx, decide_true, if_true]; omega
  · have hy : ¬ Y < 0 := by simpa [hx] using h
    simp only [hx, decide_false, Bool.false_eq_true, if_false]; omega
theorem sv_add_sub {X Y : Int} (h : decide (X < 0) ≠ decide (Y < 0)) (hle : Y.natAbs ≤ X.natAbs) : sv (decide (X < 0)) (X.natAbs - Y.natAbs) = X + Y := by
  unfold sv
  by_cases hx : X < 0
  · have hy : ¬ Y < 0 := by simpa [hx] using h
    simp only [hx, decide_true, if_true]; omega
  · have hy : Y < 0 := by simpa [hx] using h
    simp only [hx, decide_false, Bool.false_eq_true, if_false]; omega
end Go.Proofs.YtpdoepjnkgffpaaDoor
namespace Go.Proofs.YtpdoepjnkgffpaaDoor
open Go.ChangeShapes Go.WideShapes Go.ChangeAt Go.RowKit
set_option linter.unusedSimpArgs false
set_option linter.unusedVariables false
set_option maxRecDepth 2000
theorem IsN.neg {b : Bool} {sl : Value} {Z : Int} {K : Nat} {w : World} (h : IsN (.agg #[.bool b, sl]) Z K w) : IsN (.agg #[.bool (!b), sl]) (-Z) K w := by
  obtain ⟨neg, o, l, c, e, hL, hc, hm, hs, hk⟩ := h
  simp only [Value.agg.injEq, Array.mk.injEq, List.cons.injEq, Value.bool.injEq, and_true] at e
  obtain ⟨rfl, rfl⟩ := e
  refine ⟨!b, o, l, c, rfl, hL, hc, hm, ?_, hk⟩
  rw [← hs]; unfold sv; cases b <;> simp
theorem boxes2 (w : World) (a0 a1 b0 b1 : Value) (ta tb : TypeId) :
    Box w.heap.size a0 a1 ((w.alloc (.cells #[a0, a1] ta)).alloc (.cells #[b0, b1] tb)) ∧ Box (w.heap.size + 1) b0 b1 ((w.alloc (.cells #[a0, a1] ta)).alloc (.cells #[b0, b1] tb)) ∧ Below w.heap.size w ((w.alloc (.cells #[a0, a1] ta)).alloc (.cells #[b0, b1] tb)) ∧ ((w.alloc (.cells #[a0, a1] ta)).alloc (.cells #[b0, b1] tb)).heap.size = w.heap.size + 2 := by
  refine ⟨(Box.new w a0 a1 ta).alloc _ (by simp), ?_, ((Below.refl _ w).alloc (Nat.le_refl _) _).alloc (by simp) _, by simp⟩
  have := Box.new (w.alloc (.cells #[a0, a1] ta)) b0 b1 tb
  simp only [World.size_alloc] at this
  exact this
theorem cmpZ_neg (x y : Int) : cmpZ (-x) (-y) = cmpZ y x := by
  unfold cmpZ
  by_cases h : y < x
  · rw [if_pos (by omega), if_pos h]
  · rw [if_neg (by omega), if_neg h]
    by_cases h2 : x < y
    · rw [if_pos (by omega), if_pos h2]
    · rw [if_neg (by omega), if_neg h2]
set_option maxHeartbeats 1000000 in
theorem Compare_w (va vb : Value) (X Y : Int) (K : Nat) (w : World) (hK : K ≤ 1000000) (ha : IsN va X K w) (hb : IsN vb Y K w) :
    Calls Tryd.prog 69 #[va, vb] w fun e w' => e = .returned (.int .i64 (cmpZ X Y)) ∧ Below w.heap.size w w' := by
  have hA : ∀ w', Below w.heap.size w w' → IsN va X K w' := fun w' hw => ha.below hw
  have hB : ∀ w', Below w.heap.size w w' → IsN vb Y K w' := fun w' hw => hb.below hw
  obtain ⟨na, oa, la, ca, rfl, hLa, hca, hma, hsa, hka⟩ := ha
  obtain ⟨nb, ob, lb, cb, rfl, hLb, hcb, hmb, hsb, hkb⟩ := hb
  clear hsa hsb hma hmb hLa hLb hca hcb hka hkb
  obtain ⟨kA, kB, hB0, hz0⟩ := boxes2 w (.bool na) (.slice oa la.length ca) (.bool nb) (.slice ob lb.length cb) 72 72
  obtain ⟨R, hR⟩ : ∃ R, cmpZ X Y = R := ⟨_, rfl⟩
  rw [hR]
  have hRH := hid hR
  clear hR
  go_enter Tryd.func69, Tryd.ntmps69
  go_wp2
  generalize ((w.alloc (.cells #[.bool na, .slice oa la.length ca] 72)).alloc (.cells #[.bool nb, .slice ob lb.length cb] 72)) = W0 at *
  obtain ⟨f1, f2, f3, f4⟩ := id kA
  obtain ⟨f5, f6, f7, f8⟩ := id kB
  go_cut [] from 5 to 8 (fun wx => Two X Y K w wx ∧ After w W0 wx)
  case first =>
    go_region_with (first
        | (go_at_call_of 81 oa
           refine (view_w _ X K _ (by omega) (hA _ hB0.drew)).mono ?_
           rintro e w1 ⟨v1, rfl, hv1, b1'⟩
           have b1 : Below W0.heap.size W0 w1 := ((Below.refl _ W0).drew).trans b1'
           clear b1'
           obtain ⟨o1, c1, rfl, L1, z1, q1⟩ := hv1 w (hA w (Below.refl _ _))
           have hB1 : Below w.heap.size w w1 := below_and hB0 (Nat.le_refl _) b1
           have hz1 := b1.size
           obtain ⟨p1, p2, p3, p4⟩ := kA.below b1 (by omega)
           obtain ⟨p5, p6, p7, p8⟩ := kB.below b1 (by omega))
        | (go_at_call_of 81 ob
           refine (view_w _ Y K _ (by omega) (hB _ hB1)).mono ?_
           rintro e w2 ⟨v2, rfl, hv2, b2'⟩
           have b2 : Below W0.heap.size W0 w2 := below_and b1 (Nat.le_refl _) b2'
           clear b2' p1 p2 p3 p4 p5 p6 p7 p8
           obtain ⟨o2, c2, rfl, L2, z2, q2⟩ := hv2 w (hB w (Below.refl _ _))
           obtain ⟨p1, p2, p3, p4⟩ := kA.below b2 (by omega)
           obtain ⟨p5, p6, p7, p8⟩ := kB.below b2 (by omega)))
    all_goals (go_wp2_with fail; go_meet)
    all_goals (have hAf := after_put (a0 := .bool (decide (X < 0))) (a1 := .slice o1 (glim 4294967296 X.natAbs).length c1) (b0 := .bool (decide (Y < 0))) (b1 := .slice o2 (glim 4294967296 Y.natAbs).length c2) hB0 (by omega) b2; exact ⟨⟨o1, c1, o2, c2, (boxes_put kA kB (by omega) b2).1, (boxes_put kA kB (by omega) b2).2, L1.below hAf.2.2, L2.below hAf.2.2, z1, z2, q1, q2⟩, hAf⟩)
  case rest =>
    obtain ⟨⟨o1, c1, o2, c2, kA', kB', L1, L2, z1, z2, q1, q2⟩, hAf⟩ := hcut
    have hsz := hAf.2.1
    have hBx := hAf.2.2
    clear hAf kA kB f1 f2 f3 f4 f5 f6 f7 f8 hB0 hA hB
    obtain ⟨f1, f2, f3, f4⟩ := id kA'
    obtain ⟨f5, f6, f7, f8⟩ := id kB'
    clear kA' kB'
    by_cases hx : X < 0
    · have hdx : decide (X < 0) = true := by simp [hx]
      rw [hdx] at f1
      by_cases hy : Y < 0
      · have hdy : decide (Y < 0) = true := by simp [hy]
        rw [hdy] at f5
        have hres : R = cmpZ (Y.natAbs : Int) (X.natAbs : Int) := by
          rw [← hRH.out, ← cmpZ_neg]; congr 1 <;> omega
        clear hx hy hdx hdy hRH
        go_wp2_with fail
        refine (compare_w o2 o1 c2 c1 _ _ _ (by omega) (by omega) L2 L1).mono ?_
        rintro e wd ⟨rfl, bd⟩
        go_wp2
        go_ret
        exact ⟨by rw [hres]; rfl, below_and hBx (Nat.le_refl _) bd⟩
      · have hdy : decide (Y < 0) = false := by simp [hy]
        rw [hdy] at f5
        have hres : R = -1 := by rw [← hRH.out, cmpZ_lt (by omega)]
        clear hx hy hdx hdy hRH
        go_wp2
        go_ret
        exact ⟨by rw [hres]; rfl, hBx⟩
    · have hdx : decide (X < 0) = false := by simp [hx]
      rw [hdx] at f1
      by_cases hy : Y < 0
      · have hdy : decide (Y < 0) = true := by simp [hy]
        rw [hdy] at f5
        have hres : R = 1 := by rw [← hRH.out, cmpZ_gt (by omega)]
        clear hx hy hdx hdy hRH
        go_wp2
        go_ret
        exact ⟨by rw [hres]; rfl, hBx⟩
      · have hdy : decide (Y < 0) = false := by simp [hy]
        rw [hdy] at f5
        have hres : R = cmpZ (X.natAbs : Int) (Y.natAbs : Int) := by
          rw [← hRH.out]; congr 1 <;> omega
        clear hx hy hdx hdy hRH
        go_wp2_with fail
        refine (compare_w o1 o2 c1 c2 _ _ _ (by omega) (by omega) L1 L2).mono ?_
        rintro e wd ⟨rfl, bd⟩
        go_wp2
        go_ret
        exact ⟨by rw [hres]; rfl, below_and hBx (Nat.le_refl _) bd⟩
end Go.Proofs.YtpdoepjnkgffpaaDoor
namespace Go.Proofs.YtpdoepjnkgffpaaDoor
open Go.ChangeShapes Go.WideShapes Go.ChangeAt Go.RowKit
set_option linter.unusedSimpArgs false
set_option linter.unusedVariables false
set_option maxRecDepth 2000
theorem gval_set (b : Nat) {l : List Nat} {i old : Nat} (x : Nat) (h : l[i]? = some old) : gval b (l.set i x) + b ^ i * old = gval b l + b ^ i * x := by
  have hi : i < l.length := (List.getElem?_eq_some_iff.1 h).1
  have e1 := gval_split b (i + 1) l (by omega)
  have e2 := gval_split b (i + 1) (l.set i x) (by simp; omega)
  rw [gval_set_take b x hi, List.drop_set_of_lt (by omega)] at e2
  rw [gval_take_succ b h] at e1
  omega
/-- one place of a product -/
theorem mul_step {P G V W c x y old s G' : Nat} (hs : c + (x * y + old) = s) (hg : G' + P * old = G + P * (s % 4294967296)) (h : G + P * c = V + W) : G' + P * 4294967296 * (s / 4294967296) = V + (W + P * (x * y)) := by
  have e : P * s = P * c + (P * (x * y) + P * old) := by rw [← hs, Nat.mul_add, Nat.mul_add]
  have e2 : P * s = P * (s % 4294967296) + (P * 4294967296) * (s / 4294967296) := by
    rw [Nat.mul_assoc, ← Nat.mul_add, Nat.mod_add_div]
  omega
theorem mul_tail (k q x y : Nat) : (4294967296 : Nat) ^ (k + q) * (x * y) = 4294967296 ^ k * (x * (4294967296 ^ q * y)) := by
  rw [Nat.pow_add, Nat.mul_assoc]; congr 1; exact Nat.mul_left_comm _ _ _
/-- how many limbs a number has -/
def ln (Z : Int) : Nat := (glim 4294967296 Z.natAbs).length
/-- may a product be? -/
def mulOk (X Y : Int) : Bool := decide (ln X ≤ 128 ∧ ln Y ≤ 128 ∧ ln (X * Y) ≤ 128)
theorem sv_mul (X Y : Int) : sv (decide (X < 0) != decide (Y < 0)) (X.natAbs * Y.natAbs) = X * Y := by
  rw [← Int.natAbs_mul]
  unfold sv
  by_cases hx : X < 0 <;> by_cases hy : Y < 0 <;> simp only [hx, hy, decide_true, decide_false, bne_self_eq_false, Bool.false_eq_true, if_false]
  · have : 0 ≤ X * Y := Int.mul_nonneg_of_nonpos_of_nonpos (by omega) (by omega)
    omega
  · have : X * Y ≤ 0 := Int.mul_nonpos_of_nonpos_of_nonneg (by omega) (by omega)
    simp; omega
  · have : X * Y ≤ 0 := Int.mul_nonpos_of_nonneg_of_nonpos (by omega) (by omega)
    simp; omega
  · have : 0 ≤ X * Y := Int.mul_nonneg (by omega) (by omega)
    omega
theorem isC_zero (K : Nat) (w : World) : IsC (.agg #[.bool false, .slice none 0 0]) 0 K w := ⟨none, 0, by simp [glim_zero], fun j x hx => by simp [glim_zero] at hx, by simp [glim_zero], by simp [glim_zero]⟩
end Go.Proofs.YtpdoepjnkgffpaaDoor
namespace Go.Proofs.YtpdoepjnkgffpaaDoor
open Go.ChangeShapes Go.WideShapes Go.ChangeAt Go.RowKit
set_option linter.unusedSimpArgs false
set_option linter.unusedVariables false
set_option maxRecDepth 2000
theorem lies_pair (w : World) (lo hi : Nat) (t : TypeId) : Lies (some ⟨w.heap.size, 0, none⟩) [lo, hi] (w.alloc (.cells #[.int .u32 (lo : Int), .int .u32 (hi : Int)] t)) := fun j x hx => by
  refine ⟨_, rfl, ?_⟩
  rw [addr_add, Nat.zero_add, World.cell?_alloc_mark]
  match j, hx with
  | 0, hx => simp at hx; subst hx; rfl
  | 1, hx => simp at hx; subst hx; rfl
  | j + 2, hx => simp at hx
set_option maxHeartbeats 1000000 in
theorem of_w (n : Int) (w : World) (h0 : -9223372036854775808 ≤ n) (h1 : n < 9223372036854775808) :
    Calls Tryd.prog 58 #[.int .i64 n] w fun e w' => ∃ v', e = .returned v' ∧ IsC v' n 2 w' ∧ Below w.heap.size w w' := by
  obtain ⟨m, hm⟩ : ∃ m : Nat, n.natAbs = m := ⟨_, rfl⟩
  have hlo : IntKind.u32.wrap (m : Int) = ((m % 4294967296 : Nat) : Int) := by rw [IntKind.wrap_u32]; omega
  have hhi : IntKind.u32.wrap ((m : Int) / 4294967296) = ((m / 4294967296 : Nat) : Int) := by rw [IntKind.wrap_u32]; omega
  have hBx : Below w.heap.size w (w.alloc (.cells #[.bool false, .slice none 0 0] 72)) := (Below.refl _ w).alloc (Nat.le_refl _) _
  have hBy : Below w.heap.size w ((w.alloc (.cells #[.bool false, .slice none 0 0] 72)).alloc (.cells #[.int .u32 ((m % 4294967296 : Nat) : Int), .int .u32 ((m / 4294967296 : Nat) : Int)] 42)) := hBx.alloc (by simp) _
  have kC : Box w.heap.size (.bool false) (.slice none 0 0) ((w.alloc (.cells #[.bool false, .slice none 0 0] 72)).alloc (.cells #[.int .u32 ((m % 4294967296 : Nat) : Int), .int .u32 ((m / 4294967296 : Nat) : Int)] 42)) := (Box.new w _ _ _).alloc _ (by simp)
  have hL : Lies (some ⟨w.heap.size + 1, 0, none⟩) [m % 4294967296, m / 4294967296] ((w.alloc (.cells #[.bool false, .slice none 0 0] 72)).alloc (.cells #[.int .u32 ((m % 4294967296 : Nat) : Int), .int .u32 ((m / 4294967296 : Nat) : Int)] 42)) := by
    have := lies_pair (w.alloc (.cells #[.bool false, .slice none 0 0] 72)) (m % 4294967296) (m / 4294967296) 42
    simp only [World.size_alloc] at this
    exact this
  have hN : IsN (.agg #[.bool (decide (n < 0)), .slice (some ⟨w.heap.size + 1, 0, none⟩) 2 2]) n 2 ((w.alloc (.cells #[.bool false, .slice none 0 0] 72)).alloc (.cells #[.int .u32 ((m % 4294967296 : Nat) : Int), .int .u32 ((m / 4294967296 : Nat) : Int)] 42)) := by
    refine ⟨_, _, [m % 4294967296, m / 4294967296], 2, rfl, hL, by simp, ?_, ?_, by simp⟩
    · exact Lm.cons (by omega) (Lm.cons (by omega) (Lm.nil _))
    · have : gval 4294967296 [m % 4294967296, m / 4294967296] = m := by simp only [gval]; omega
      rw [this]; unfold sv
      by_cases hn : n < 0
      · simp only [hn, decide_true, if_true]; omega
      · simp only [hn, decide_false, Bool.false_eq_true, if_false]; omega
  generalize hg : m % 4294967296 = lo at *
  generalize hg2 : m / 4294967296 = hi at *
  have hz : ((w.alloc (.cells #[.bool false, .slice none 0 0] 72)).alloc (.cells #[.int .u32 (lo : Int), .int .u32 (hi : Int)] 42)).heap.size = w.heap.size + 2 := by simp
  by_cases hn : n < 0
  · have hd : decide (n < 0) = true := by simp [hn]
    rw [hd] at hN
    have w1 : IntKind.u64.wrap (-IntKind.u64.wrap n) = (m : Int) := by rw [IntKind.wrap_u64, IntKind.wrap_u64]; omega
    clear hm hg hg2 hd hL
    go_enter Tryd.func58, Tryd.ntmps58
    go_wp2_with fail
    generalize ((w.alloc (.cells #[.bool false, .slice none 0 0] 72)).alloc (.cells #[.int .u32 (lo : Int), .int .u32 (hi : Int)] 42)) = W0 at *
    refine (view_w _ n 2 _ (by omega) hN).mono ?_
    rintro e w4 ⟨v4, rfl, hv4, b4⟩
    obtain ⟨o4, c4, rfl, L4, z4, q4⟩ := (hv4 _ hN).below b4
    have hB4 := below_and hBy (Nat.le_refl _) b4
    have kC4 := kC.below b4 (by omega)
    obtain ⟨e1, e2, e3, e4⟩ := id kC4
    go_wp2
    refine bodyPost_ret (v := .agg #[.bool (decide (n < 0)), .slice o4 (glim 4294967296 n.natAbs).length c4]) (by simp [results, Tryd.results58, go_sem, e1, e2, hn]) rfl ⟨_, rfl, ?_, ?_⟩
    · exact (show IsC _ n _ _ from ⟨o4, c4, rfl, L4, z4, q4⟩).box kC4
    · exact (hB4.setCell (p := ⟨w.heap.size, 0, none⟩) (by simp) _).setCell (p := ⟨w.heap.size, 1, none⟩) (by simp) _
  · have hd : decide (n < 0) = false := by simp [hn]
    rw [hd] at hN
    have w1 : IntKind.u64.wrap n = (m : Int) := by rw [IntKind.wrap_u64]; omega
    clear hm hg hg2 hd hL
    go_enter Tryd.func58, Tryd.ntmps58
    go_wp2_with fail
    generalize ((w.alloc (.cells #[.bool false, .slice none 0 0] 72)).alloc (.cells #[.int .u32 (lo : Int), .int .u32 (hi : Int)] 42)) = W0 at *
    refine (view_w _ n 2 _ (by omega) hN).mono ?_
    rintro e w4 ⟨v4, rfl, hv4, b4⟩
    obtain ⟨o4, c4, rfl, L4, z4, q4⟩ := (hv4 _ hN).below b4
    have hB4 := below_and hBy (Nat.le_refl _) b4
    have kC4 := kC.below b4 (by omega)
    obtain ⟨e1, e2, e3, e4⟩ := id kC4
    go_wp2
    refine bodyPost_ret (v := .agg #[.bool (decide (n < 0)), .slice o4 (glim 4294967296 n.natAbs).length c4]) (by simp [results, Tryd.results58, go_sem, e1, e2, hn]) rfl ⟨_, rfl, ?_, ?_⟩
    · exact (show IsC _ n _ _ from ⟨o4, c4, rfl, L4, z4, q4⟩).box kC4
    · exact (hB4.setCell (p := ⟨w.heap.size, 0, none⟩) (by simp) _).setCell (p := ⟨w.heap.size, 1, none⟩) (by simp) _
/-- limbs in memory of the call's own, from B on -/
def Fr (B : Nat) (v : Value) (l : List Nat) (w : World) : Prop := w.ownsRow B 42 1 v l.length (l.map fun (x : Nat) => Value.int .u32 (x : Int))
theorem Fr.nil (B : Nat) (w : World) : Fr B (.slice none 0 0) [] w := World.ownsRow_nil _ _ _ _
theorem Fr.own {B g c : Nat} {l : List Nat} {w : World} {n : Nat} (h : Fr B (.slice (some ⟨g, 0, none⟩) n c) l w) : B ≤ g ∧ g < w.heap.size ∧ Own g l w ∧ l.length ≤ c := by
  rcases h.2 with ⟨hv, h0⟩ | ⟨g', cap, cur, hv, hb, hg, hnc, hcm, hcs, htake⟩
  · simp at hv
  · simp only [Value.slice.injEq, Option.some.injEq, Addr.mk.injEq, and_true] at hv
    obtain ⟨rfl, rfl, rfl⟩ := hv
    refine ⟨hb, (Array.getElem?_eq_some_iff.1 hg).1, ⟨fun j x hj => ?_, fun j => ?_⟩, hnc⟩
    · have hc : w.cell? ⟨g, j, none⟩ = cur[j]? := by simp [World.cell?, hg]
      rw [hc, ← Array.getElem?_toList]
      have hj' : j < l.length := (List.getElem?_eq_some_iff.1 hj).1
      have := congrArg (·[j]?) htake
      simp only [List.getElem?_take, List.getElem?_map, hj, Option.map_some, Nat.mul_one, if_pos hj'] at this
      exact this
    · simp [World.frozen?, hg]
theorem Fr.shape {B : Nat} {v : Value} {l : List Nat} {w : World} (h : Fr B v l w) : (v = .slice none 0 0 ∧ l = []) ∨ ∃ g c, v = .slice (some ⟨g, 0, none⟩) l.length c := by
  rcases h.2 with ⟨hv, h0⟩ | ⟨g, cap, cur, hv, _⟩
  · exact .inl ⟨hv, List.eq_nil_of_length_eq_zero h0⟩
  · exact .inr ⟨g, cap, hv⟩
theorem Fr.parts {B : Nat} {v : Value} {l : List Nat} {w : World} (h : Fr B v l w) : ∃ o c, v = .slice o l.length c ∧ Lies o l w ∧ l.length ≤ c ∧ (l ≠ [] → ∃ g, o = some ⟨g, 0, none⟩ ∧ B ≤ g ∧ g < w.heap.size ∧ Own g l w) := by
  rcases h.shape with ⟨rfl, rfl⟩ | ⟨g, c, rfl⟩
  · exact ⟨none, 0, rfl, fun j x hx => by simp at hx, by simp, fun e => absurd rfl e⟩
  · obtain ⟨h1, h2, h3, h4⟩ := h.own
    exact ⟨_, c, rfl, h3.lies, h4, fun _ => ⟨g, rfl, h1, h2, h3⟩⟩
theorem Fr.below {B : Nat} {v : Value} {l : List Nat} {w w' : World} (h : Fr B v l w) (hb : Below w.heap.size w w') : Fr B v l w' := by
  refine ⟨h.1, ?_⟩
  rcases h.2 with hn | ⟨g, cap, cur, hv, hbg, hg, rest⟩
  · exact .inl hn
  · exact .inr ⟨g, cap, cur, hv, hbg, (hb.block g (Array.getElem?_eq_some_iff.1 hg).1).trans hg, rest⟩
theorem Fr.set {B : Nat} {v : Value} {l : List Nat} {w : World} (h : Fr B v l w) {p : Addr} (hp : p.block < B) (x : Value) : Fr B v l (w.setCell p x) := by
  refine ⟨h.1, ?_⟩
  rcases h.2 with hn | ⟨g, cap, cur, hv, hbg, hg, rest⟩
  · exact .inl hn
  · refine .inr ⟨g, cap, cur, hv, hbg, ?_, rest⟩
    rw [Below.heap_setCell _ _ _ _ (fun e => by omega)]; exact hg
theorem Fr.mono {B B' : Nat} {v : Value} {l : List Nat} {w : World} (h : Fr B v l w) (hB : B' ≤ B) : Fr B' v l w := by
  refine ⟨h.1, ?_⟩
  rcases h.2 with hn | ⟨g, cap, cur, hv, hbg, rest⟩
  · exact .inl hn
  · exact .inr ⟨g, cap, cur, hv, by omega, rest⟩
set_option maxHeartbeats 1000000 in
theorem clone_w (o : Option Addr) (c : Nat) (l : List Nat) (w : World) (hl : l.length ≤ 1000000) (h : Lies o l w) :
    Calls Tryd.prog 95 #[.slice o l.length c] w fun e w' => ∃ v', e = .returned v' ∧ Fr w.heap.size v' l w' ∧ Below w.heap.size w w' := by
  have q : ∀ (w : World) (a : Option Addr) (n c n' c' : Nat), (binOp .eql 28 (.slice a n c) (.slice none n' c')).run Tryd.prog w = .ok (.bool a.isNone) w := fun w a n c n' c' => Lib.run_eql_slice_nil w _ _ a n c n' c' Tryd.underlying28
  cases o with
  | none =>
    have hl0 : l = [] := by
      cases l with
      | nil => rfl
      | cons x t => obtain ⟨a, ha, _⟩ := h 0 x (by simp); simp at ha
    subst hl0
    go_enter Tryd.func95, Tryd.ntmps95
    go_wp2
    go_ret
    exact ⟨_, rfl, Fr.nil _ _, Below.refl _ _⟩
  | some a =>
    obtain ⟨i0, hi, hz0, hz1, hz2⟩ := info_parts info32u
    have A : Hid (Lies (some a) l w) := hid h
    clear h
    go_enter Tryd.func95, Tryd.ntmps95
    go_wp2_with (at_builtin; refine wpList_append_own _ rfl _ _ 28 rfl w.heap.size 42 i0 (.int .u32 0) 1 4 Tryd.underlying28 hi hz0 hz1 hz2 rfl (by decide) _ _ _ rfl (World.ownsRow_made w #[] 0 (Nat.le_refl _) (Nat.zero_le _) rfl) a l.length c (l.map fun (x : Nat) => Value.int .u32 (x : Int)) rfl ?c1 ?c2 ?c3 ?c4 ?c5 ?c6 ?_)
    case c1 => simp
    case c2 =>
      intro j u hj
      rw [List.getElem?_map] at hj
      cases hx : l[j]? with
      | none => rw [hx] at hj; simp at hj
      | some x =>
        rw [hx] at hj
        simp only [Option.map_some, Option.some.injEq] at hj
        subst hj
        obtain ⟨a', ha, hc⟩ := A.out j x hx
        obtain rfl := Option.some.inj ha
        exact (((Below.refl w.heap.size w).alloc (Nat.le_refl _) _).cell (World.block_lt_of_cell? _ _ hc)).trans hc
    case c3 => intro u hu; obtain ⟨x, _, rfl⟩ := List.mem_map.1 hu; rfl
    case c4 => unfold maxLen; omega
    case c5 => omega
    case c6 => simp
    intro v' w1 hown hgrow hnil
    go_wp2
    go_ret
    refine ⟨v', rfl, ?_, ?_⟩
    · unfold Fr; simpa using hown
    · exact ((Below.refl _ w).alloc (Nat.le_refl _) _).grown hgrow (by simp) (by intro k hk; simp [Value.ownBlock] at hk; omega)
/-- of a value: the same number, as a Norm, in memory of the call's own -/
theorem norm_w (v : Value) (Z : Int) (K : Nat) (w : World) (hK : K ≤ 1000000) (h : IsN v Z K w) :
    Calls Tryd.prog 80 #[v] w fun e w' => ∃ sl, e = .returned (.agg #[.bool (decide (Z < 0)), sl]) ∧ Fr w.heap.size sl (glim 4294967296 Z.natAbs) w' ∧ (glim 4294967296 Z.natAbs).length ≤ K ∧ Below w.heap.size w w' := by
  have hA : ∀ w', Below w.heap.size w w' → IsN v Z K w' := fun w' hw => h.below hw
  obtain ⟨neg, o, l, c, rfl, hL, hc, hm, hs, hk⟩ := h
  obtain ⟨kA, kB, hB0, hz0⟩ := boxes2 w (.bool neg) (.slice o l.length c) (.bool false) (.slice none 0 0) 72 72
  clear hL hc hm hs hk
  go_enter Tryd.func80, Tryd.ntmps80
  go_wp2_with fail
  generalize ((w.alloc (.cells #[.bool neg, .slice o l.length c] 72)).alloc (.cells #[.bool false, .slice none 0 0] 72)) = W0 at *
  refine (view_w _ Z K _ hK (hA _ hB0)).mono ?_
  rintro e w1 ⟨v1, rfl, hv1, b1⟩
  obtain ⟨o1, c1, rfl, L1, z1, q1⟩ := hv1 w (hA w (Below.refl _ _))
  have hz1 := b1.size
  have hB1 := below_and hB0 (Nat.le_refl _) b1
  have kA1 := kA.below b1 (by omega)
  have kB1 := kB.below b1 (by omega)
  obtain ⟨p1, p2, p3, p4⟩ := id kA1
  clear b1 hA kA kB hv1
  go_wp2_with fail
  have kA2 : Box w.heap.size (.bool (decide (Z < 0))) (.slice o1 (glim 4294967296 Z.natAbs).length c1) ((w1.setCell ⟨w.heap.size, 0, none⟩ (.bool (decide (Z < 0)))).setCell ⟨w.heap.size, 1, none⟩ (.slice o1 (glim 4294967296 Z.natAbs).length c1)) := kA1.put
  have kB2 := kB1.far (k := w.heap.size) (x := .bool (decide (Z < 0))) (y := .slice o1 (glim 4294967296 Z.natAbs).length c1) (by omega)
  have hB2 := (hB1.setCell (p := ⟨w.heap.size, 0, none⟩) (Nat.le_refl _) (.bool (decide (Z < 0)))).setCell (p := ⟨w.heap.size, 1, none⟩) (Nat.le_refl _) (.slice o1 (glim 4294967296 Z.natAbs).length c1)
  have hz2 : w.heap.size + 2 ≤ ((w1.setCell ⟨w.heap.size, 0, none⟩ (.bool (decide (Z < 0)))).setCell ⟨w.heap.size, 1, none⟩ (.slice o1 (glim 4294967296 Z.natAbs).length c1)).heap.size := by simp; omega
  clear kA1 kB1 p1 p2 p3 p4 hB1
  generalize (w1.setCell ⟨w.heap.size, 0, none⟩ (.bool (decide (Z < 0)))).setCell ⟨w.heap.size, 1, none⟩ (.slice o1 (glim 4294967296 Z.natAbs).length c1) = w2 at *
  refine (clone_w o1 c1 _ _ (by omega) (L1.below hB2)).mono ?_
  rintro e w3 ⟨sl, rfl, hF, b3⟩
  have kA3 := kA2.below b3 (by omega)
  have kB3 := kB2.below b3 (by omega)
  have hB3 := below_and hB2 (Nat.le_refl _) b3
  obtain ⟨p1, p2, p3, p4⟩ := id kA3
  obtain ⟨r1, r2, r3, r4⟩ := id kB3
  have hz3 := b3.size
  obtain ⟨o3, c3, rfl, L3, z3, hown⟩ := hF.parts
  clear kA2 kB2 b3
  go_wp2
  refine bodyPost_ret (v := .agg #[.bool (decide (Z < 0)), .slice o3 (glim 4294967296 Z.natAbs).length c3]) (by simp [results, Tryd.results80, go_sem, r1, r2]) rfl ⟨_, rfl, ?_, q1, ?_⟩
  · exact (((hF.set (p := ⟨w.heap.size, 1, none⟩) (by simp; omega) _).set (p := ⟨w.heap.size + 1, 0, none⟩) (by simp; omega) _).set (p := ⟨w.heap.size + 1, 1, none⟩) (by simp; omega) _).mono (by omega)
  · exact ((hB3.setCell (p := ⟨w.heap.size, 1, none⟩) (by simp) _).setCell (p := ⟨w.heap.size + 1, 0, none⟩) (by simp) _).setCell (p := ⟨w.heap.size + 1, 1, none⟩) (by simp) _
end Go.Proofs.YtpdoepjnkgffpaaDoor
namespace Go.Proofs.YtpdoepjnkgffpaaDoor
open Go.ChangeShapes Go.WideShapes Go.ChangeAt Go.RowKit
set_option linter.unusedSimpArgs false
set_option linter.unusedVariables false
set_option maxRecDepth 2000
/-- one block alone has changed -/
def Only (g : Nat) (w w' : World) : Prop := Below g w w' ∧ w'.heap.size = w.heap.size ∧ ∀ k, k ≠ g → w'.heap[k]? = w.heap[k]?
theorem Only.refl (g : Nat) (w : World) : Only g w w := ⟨Below.refl _ _, rfl, fun _ _ => rfl⟩
theorem Only.trans {g : Nat} {a b c : World} (h : Only g a b) (h' : Only g b c) : Only g a c := ⟨h.1.trans h'.1, h'.2.1.trans h.2.1, fun k hk => (h'.2.2 k hk).trans (h.2.2 k hk)⟩
theorem Only.setCell {g : Nat} {a b : World} (h : Only g a b) (j : Nat) (v : Value) : Only g a (b.setCell ⟨g, j, none⟩ v) :=
  ⟨h.1.setCell (Nat.le_refl _) v, by simpa using h.2.1, fun k hk => by rw [Below.heap_setCell _ _ _ _ (fun e => hk (by first | exact e | exact e.symm))]; exact h.2.2 k hk⟩
theorem Only.below {g B : Nat} {a b : World} (h : Only g a b) (hB : B ≤ g) : Below B a b := below_le h.1 hB
theorem Only.drewN {g : Nat} {a b : World} (h : Only g a b) (n : Nat) : Only g a (b.drewN n) := by
  induction n with
  | zero => exact h
  | succ n ih => exact ⟨ih.1.drew, ih.2.1, ih.2.2⟩
theorem Box.only {g k : Nat} {u v : Value} {w w' : World} (h : Box k u v w) (ho : Only g w w') (hk : k ≠ g) : Box k u v w' :=
  ⟨(World.cell?_of_block (a := ⟨k, 0, none⟩) (ho.2.2 k hk)).trans h.1, (World.cell?_of_block (a := ⟨k, 1, none⟩) (ho.2.2 k hk)).trans h.2.1, (World.frozen?_of_block (a := ⟨k, 0, none⟩) (ho.2.2 k hk)).trans h.2.2.1, (World.frozen?_of_block (a := ⟨k, 1, none⟩) (ho.2.2 k hk)).trans h.2.2.2⟩
theorem or32 {r x : Nat} (hr : r < 4294967296) (hx : x < 4294967296) : bits .or .u64 ((r * 4294967296 : Nat) : Int) (x : Int) = ((r * 4294967296 + x : Nat) : Int) := by
  rw [u64_or _ _ (by omega) (by omega) (by omega) (by omega)]
  simp only [Int.toNat_natCast]
  rw [nat_join 32 _ _ (by omega) (by omega)]
theorem shrink_step {d q r r' x G T : Nat} (hc : q * d + r' = r * 4294967296 + x) (h : G * d + r = T) : (q + 4294967296 * G) * d + r' = x + 4294967296 * T := by
  subst h
  rw [Nat.add_mul, Nat.mul_add, Nat.mul_assoc]
  omega
theorem gval_drop_at (b : Nat) {l : List Nat} {k x : Nat} (h : l[k]? = some x) : gval b (l.drop k) = x + b * gval b (l.drop (k + 1)) := by
  have hi : k < l.length := (List.getElem?_eq_some_iff.1 h).1
  have hx : l[k] = x := (List.getElem?_eq_some_iff.1 h).2
  rw [List.drop_eq_getElem_cons hi, hx]; rfl
theorem gval_drop_set (b : Nat) {l : List Nat} {k : Nat} (x : Nat) (h : k < l.length) : gval b ((l.set k x).drop k) = x + b * gval b (l.drop (k + 1)) := by
  rw [gval_drop_at b (x := x) (by simp [h]), List.drop_set_of_lt (by omega)]
end Go.Proofs.YtpdoepjnkgffpaaDoor
namespace Go.Proofs.YtpdoepjnkgffpaaDoor
open Go.ChangeShapes Go.WideShapes Go.ChangeAt Go.RowKit
set_option linter.unusedSimpArgs false
set_option linter.unusedVariables false
set_option maxRecDepth 2000
/-- bytes in a block of the call's own, from its beginning on -/
def OwnB (g : Nat) (l : List Nat) (w : World) : Prop := (∀ (j x : Nat), l[j]? = some x → w.cell? ⟨g, j, none⟩ = some (.int .u8 (x : Int))) ∧ ∀ j, w.frozen? ⟨g, j, none⟩ = false
theorem OwnB.set {g : Nat} {l : List Nat} {w : World} (h : OwnB g l w) {j : Nat} (x : Nat) (hj : j < l.length) : OwnB g (l.set j x) (w.setCell ⟨g, j, none⟩ (.int .u8 (x : Int))) := by
  have hc := h.1 j l[j] (by simp [hj])
  refine ⟨fun i y hy => ?_, fun i => ?_⟩
  · by_cases hij : j = i
    · subst hij
      rw [List.getElem?_set_self hj] at hy
      injection hy with hy; subst hy
      exact World.cell?_setCell_same _ _ _ hc
    · rw [List.getElem?_set_ne hij] at hy
      rw [World.cell?_setCell_other w ⟨g, j, none⟩ ⟨g, i, none⟩ _ (by simp [hij])]
      exact h.1 i y hy
  · have := World.frozen?_setCells g [Value.int .u8 (x : Int)] j w ⟨g, i, none⟩
    exact this.trans (h.2 i)
theorem OwnB.drew {g : Nat} {l : List Nat} {w : World} (h : OwnB g l w) : OwnB g l w.drew := h
theorem Only.drew {g : Nat} {a b : World} (h : Only g a b) : Only g a b.drew := ⟨h.1.drew, h.2.1, h.2.2⟩
end Go.Proofs.YtpdoepjnkgffpaaDoor
namespace Go.Proofs.YtpdoepjnkgffpaaDoor
open Go.ChangeShapes Go.WideShapes Go.ChangeAt Go.RowKit
set_option linter.unusedSimpArgs false
set_option linter.unusedVariables false
set_option maxRecDepth 2000
/-- bytes in memory of the call's own, from B on -/
def FrB (B : Nat) (v : Value) (l : List Nat) (w : World) : Prop := w.ownsRow B 5 1 v l.length (l.map fun (x : Nat) => Value.int .u8 (x : Int))
theorem FrB.nil (B : Nat) (w : World) : FrB B (.slice none 0 0) [] w := World.ownsRow_nil _ _ _ _
theorem FrB.own {B g c : Nat} {l : List Nat} {w : World} {n : Nat} (h : FrB B (.slice (some ⟨g, 0, none⟩) n c) l w) : B ≤ g ∧ g < w.heap.size ∧ OwnB g l w ∧ l.length ≤ c := by
  rcases h.2 with ⟨hv, h0⟩ | ⟨g', cap, cur, hv, hb, hg, hnc, hcm, hcs, htake⟩
  · simp at hv
  · simp only [Value.slice.injEq, Option.some.injEq, Addr.mk.injEq, and_true] at hv
    obtain ⟨rfl, rfl, rfl⟩ := hv
    refine ⟨hb, (Array.getElem?_eq_some_iff.1 hg).1, ⟨fun j x hj => ?_, fun j => ?_⟩, hnc⟩
    · have hc : w.cell? ⟨g, j, none⟩ = cur[j]? := by simp [World.cell?, hg]
      rw [hc, ← Array.getElem?_toList]
      have hj' : j < l.length := (List.getElem?_eq_some_iff.1 hj).1
      have := congrArg (·[j]?) htake
      simp only [List.getElem?_take, List.getElem?_map, hj, Option.map_some, Nat.mul_one, if_pos hj'] at this
      exact this
    · simp [World.frozen?, hg]
theorem FrB.shape {B : Nat} {v : Value} {l : List Nat} {w : World} (h : FrB B v l w) : (v = .slice none 0 0 ∧ l = []) ∨ ∃ g c, v = .slice (some ⟨g, 0, none⟩) l.length c := by
  rcases h.2 with ⟨hv, h0⟩ | ⟨g, cap, cur, hv, _⟩
  · exact .inl ⟨hv, List.eq_nil_of_length_eq_zero h0⟩
  · exact .inr ⟨g, cap, hv⟩
theorem FrB.of_blocks {B : Nat} {v : Value} {l : List Nat} {w w' : World} (h : FrB B v l w) (hb : ∀ k, B ≤ k → k < w.heap.size → w'.heap[k]? = w.heap[k]?) : FrB B v l w' := by
  refine ⟨h.1, ?_⟩
  rcases h.2 with hn | ⟨g, cap, cur, hv, hbg, hg, rest⟩
  · exact .inl hn
  · exact .inr ⟨g, cap, cur, hv, hbg, (hb g hbg (Array.getElem?_eq_some_iff.1 hg).1).trans hg, rest⟩
theorem FrB.below {B : Nat} {v : Value} {l : List Nat} {w w' : World} (h : FrB B v l w) (hb : Below w.heap.size w w') : FrB B v l w' := h.of_blocks fun k _ hk => hb.block k hk
theorem FrB.only {B g : Nat} {v : Value} {l : List Nat} {w w' : World} (h : FrB B v l w) (ho : Only g w w') (hg : g < B) : FrB B v l w' := h.of_blocks fun k hk _ => ho.2.2 k (by omega)
theorem FrB.take {B g c n k : Nat} {l : List Nat} {w : World} (h : FrB B (.slice (some ⟨g, 0, none⟩) n c) l w) (hk : k ≤ l.length) : FrB B (.slice (some ⟨g, 0, none⟩) k c) (l.take k) w := by
  rcases h.2 with ⟨hv, h0⟩ | ⟨g', cap, cur, hv, hb, hg, hnc, hcm, hcs, htake⟩
  · simp at hv
  · simp only [Value.slice.injEq, Option.some.injEq, Addr.mk.injEq, and_true] at hv
    obtain ⟨rfl, rfl, rfl⟩ := hv
    refine ⟨by simp, .inr ⟨g, c, cur, by simp [Nat.min_eq_left hk], hb, hg, by simp; omega, hcm, hcs, ?_⟩⟩
    have := congrArg (List.take k) htake
    rw [List.take_take] at this
    simp only [Nat.mul_one, List.length_take] at this ⊢
    rw [this, List.map_take]
/-- a struct whose first field is a bool is no row of bytes -/
theorem FrB.ne_box {B gb : Nat} {v : Value} {l : List Nat} {w : World} {b : Bool} {u : Value} (h : FrB B v l w) (hb : Box gb (.bool b) u w) (hn : v = .slice none 0 0 ∨ l ≠ []) : v.ownBlock ≠ some gb := by
  rcases h.shape with ⟨rfl, _⟩ | ⟨g, c, rfl⟩
  · simp [Value.ownBlock]
  · obtain ⟨h1, h2, h3, h4⟩ := h.own
    intro e
    simp only [Value.ownBlock, Option.some.injEq] at e
    subst e
    rcases hn with hn | hn
    · simp at hn
    · cases l with
      | nil => exact hn rfl
      | cons x t =>
        have := h3.1 0 x (by simp)
        rw [hb.1] at this
        simp at this
theorem Box.grown {gb : Nat} {u v : Value} {w w' : World} {row : Option Nat} (h : Box gb u v w) (hg : w.grownBy w' row) (hne : row ≠ some gb) : Box gb u v w' := by
  have hlt : gb < w.heap.size := World.block_lt_of_cell? _ _ h.1
  have hn : some gb ≠ row := fun e => hne e.symm
  exact ⟨(hg.cell_far ⟨gb, 0, none⟩ hlt hn).trans h.1, (hg.cell_far ⟨gb, 1, none⟩ hlt hn).trans h.2.1, (hg.frozen_far ⟨gb, 0, none⟩ hlt hn).trans h.2.2.1, (hg.frozen_far ⟨gb, 1, none⟩ hlt hn).trans h.2.2.2⟩
theorem OwnB.string {g c : Nat} {l : List Nat} {w : World} (h : OwnB g l w) (hl : ∀ x ∈ l, x < 256) : (convert 29 9 (.slice (some ⟨g, 0, none⟩) l.length c)).run Tryd.prog w = .ok (.string ⟨(l.map UInt8.ofNat).toArray⟩) w := by
  have := run_convert_bytes_back (P := Tryd.prog) w 29 9 5 ⟨g, 0, none⟩ c (l.map UInt8.ofNat) Tryd.underlying29 Tryd.underlying5 Tryd.underlying9 (fun j hj => by
    rw [addr_add, Nat.zero_add]
    have hj' : j < l.length := by simpa using hj
    rw [h.1 j l[j] (by simp [hj'])]
    have := hl l[j] (List.getElem_mem hj')
    simp only [List.getElem_map, UInt8.toNat_ofNat']
    rw [Nat.mod_eq_of_lt (by omega)])
  rw [List.length_map] at this
  exact this
theorem Own.below' {g B : Nat} {l : List Nat} {w w' : World} (h : Own g l w) (hb : Below B w w') (hg : g < B) : Own g l w' :=
  ⟨fun j x hx => (hb.cell hg).trans (h.1 j x hx), fun j => by rw [World.frozen?_of_block (a := ⟨g, j, none⟩) (hb.block g hg)]; exact h.2 j⟩
/-- a number's digits -/
def txtN (Z : Int) : List Nat := if Z = 0 then [48] else (((glim 10 Z.natAbs).map fun d => 48 + d) ++ (if Z < 0 then [45] else [])).reverse
def txt (Z : Int) : List UInt8 := (txtN Z).map UInt8.ofNat
theorem lm10 {ds : List Nat} (h : Lm 10 ds) : ∀ x ∈ ds.map (fun d => 48 + d), x < 256 := fun x hx => by
  obtain ⟨d, hd, rfl⟩ := List.mem_map.1 hx
  have := h d hd; omega
theorem len_bound {s N M K : Nat} (hN : 0 < N) (h : 10 ^ s * N ≤ M) (hM : M < 4294967296 ^ K) : s < 32 * K + 1 := by
  have h1 : 10 ^ s * 1 ≤ 10 ^ s * N := Nat.mul_le_mul_left _ hN
  have h2 : (2 : Nat) ^ s ≤ 10 ^ s := Nat.pow_le_pow_left (by omega) s
  have h3 : (4294967296 : Nat) ^ K = 2 ^ (32 * K) := by rw [Nat.pow_mul]
  have h4 : (2 : Nat) ^ s < 2 ^ (32 * K) := by omega
  have := (Nat.pow_lt_pow_iff_right (by omega : 1 < 2)).1 h4
  omega
theorem ten_step {S p low N : Nat} {M : Nat} (h : S + p * N = M) (hl : N % 1000000000 = low) : S + p * low + p * 1000000000 * (N / 1000000000) = M := by
  rw [← h, Nat.add_assoc, Nat.mul_assoc, ← Nat.mul_add, ← hl, Nat.mod_add_div]
theorem view_raw2 (neg : Bool) (ao : Option Addr) (cap n : Nat) (l : List Nat) (w : World) (hn : l.length = n) (hl : Lm 4294967296 l) (hlen : l.length ≤ 1000000) (hcap : l.length ≤ cap) (h : Lies ao l w) :
    Calls Tryd.prog 81 #[.agg #[.bool neg, .slice ao n cap]] w fun e w' => ∃ ao' cap', e = .returned (.agg #[.bool (neg && decide (gval 4294967296 l ≠ 0)), .slice ao' (glim 4294967296 (gval 4294967296 l)).length cap']) ∧ (gval 4294967296 l = 0 → ao' = none ∧ cap' = 0) ∧ (gval 4294967296 l ≠ 0 → ao' = ao ∧ cap' = cap) ∧ Lies ao' (glim 4294967296 (gval 4294967296 l)) w ∧ Below w.heap.size w w' := by
  subst hn; exact view_raw neg ao cap l w hl hlen hcap h
theorem OwnB.string2 {g c n : Nat} {l : List Nat} {w : World} (h : OwnB g l w) (hn : l.length = n) (hl : ∀ x ∈ l, x < 256) : (convert 29 9 (.slice (some ⟨g, 0, none⟩) n c)).run Tryd.prog w = .ok (.string ⟨(l.map UInt8.ofNat).toArray⟩) w := by
  subst hn; exact h.string hl
end Go.Proofs.YtpdoepjnkgffpaaDoor
namespace Go.Proofs.YtpdoepjnkgffpaaDoor
open Go.ChangeShapes Go.WideShapes Go.ChangeAt Go.RowKit
set_option linter.unusedSimpArgs false
set_option linter.unusedVariables false
set_option maxRecDepth 2000
/-- append(nil, limbs...) -/
theorem app_run (W : World) (ao : Option Addr) (c : Nat) (l : List Nat) (hlen : l.length ≤ 1000000) (h : Lies ao l W) :
    ∃ v' w', (Builtin.append_ #[28, 28] 28 #[.slice none 0 0, .slice ao l.length c]).run Tryd.prog W = .ok v' w' ∧ Fr W.heap.size v' l w' ∧ Below W.heap.size W w' := by
  obtain ⟨i0, hi, hy0, hy1, hy2⟩ := info_parts info32u
  cases ao with
  | none =>
    have hl0 : l = [] := by
      cases l with
      | nil => rfl
      | cons x t => obtain ⟨a, ha, _⟩ := h 0 x (by simp); simp at ha
    subst hl0
    refine ⟨.slice none 0 0, W, ?_, Fr.nil _ _, Below.refl _ _⟩
    have ht := Tryd.underlying28
    simp [Builtin.append_, run_underlying ht, sizeOf, typeInfo, hi, Builtin.lenOf, Builtin.firstCells]
  | some a =>
    obtain ⟨v', w', hrun, hown, hgrow, _⟩ := run_append_own (P := Tryd.prog) W W.heap.size 28 28 42 i0 (.int .u32 0) 1 4 Tryd.underlying28 hi hy0 hy1 hy2 rfl (by decide) (.slice none 0 0) 0 [] (World.ownsRow_nil _ _ _ _) a l.length c (l.map fun (x : Nat) => Value.int .u32 (x : Int)) (by simp) (fun j u hj => by
      rw [List.getElem?_map] at hj
      cases hx : l[j]? with
      | none => rw [hx] at hj; simp at hj
      | some x =>
        rw [hx] at hj
        simp only [Option.map_some, Option.some.injEq] at hj
        subst hj
        obtain ⟨a', ha, hc⟩ := h j x hx
        obtain rfl := Option.some.inj ha
        exact hc) (fun u hu => by obtain ⟨x, _, rfl⟩ := List.mem_map.1 hu; rfl) (by unfold maxLen; omega) (by omega) (Nat.le_refl _)
    refine ⟨v', w', hrun, ?_, (Below.refl _ W).grown hgrow (Nat.le_refl _) (fun k hk => by simp [Value.ownBlock] at hk)⟩
    unfold Fr
    simpa using hown
theorem app_run2 (W : World) (ao : Option Addr) (c n : Nat) (l : List Nat) (hn : l.length = n) (hlen : l.length ≤ 1000000) (h : Lies ao l W) :
    ∃ v' w', (Builtin.append_ #[28, 28] 28 #[.slice none 0 0, .slice ao n c]).run Tryd.prog W = .ok v' w' ∧ Fr W.heap.size v' l w' ∧ Below W.heap.size W w' := by
  subst hn; exact app_run W ao c l hlen h
set_option maxHeartbeats 1000000 in
theorem rnorm_raw (neg : Bool) (ao : Option Addr) (cap : Nat) (l : List Nat) (w : World) (hl : Lm 4294967296 l) (hlen : l.length ≤ 1000000) (hcap : l.length ≤ cap) (h : Lies ao l w) :
    Calls Tryd.prog 55 #[.agg #[.bool neg, .slice ao l.length cap]] w fun e w' => ∃ sl, e = .returned (.agg #[.bool (neg && decide (gval 4294967296 l ≠ 0)), sl]) ∧ Fr w.heap.size sl (glim 4294967296 (gval 4294967296 l)) w' ∧ Below w.heap.size w w' := by
  obtain ⟨bR, hbR⟩ : ∃ bR, (neg && decide (gval 4294967296 l ≠ 0)) = bR := ⟨_, rfl⟩
  obtain ⟨G, hG⟩ : ∃ G, glim 4294967296 (gval 4294967296 l) = G := ⟨_, rfl⟩
  rw [hbR, hG]
  have hbR' := hid hbR
  have hG' := hid hG
  clear hbR hG
  obtain ⟨kA, kB, hB0, hz0⟩ := boxes2 w (.bool neg) (.slice ao l.length cap) (.bool false) (.slice none 0 0) 50 50
  have hLW := h.below hB0
  go_enter Tryd.func55, Tryd.ntmps55
  go_wp2
  generalize ((w.alloc (.cells #[.bool neg, .slice ao l.length cap] 50)).alloc (.cells #[.bool false, .slice none 0 0] 50)) = W at *
  obtain ⟨f1, f2, f3, f4⟩ := id kA
  obtain ⟨f5, f6, f7, f8⟩ := id kB
  go_loopw [3] (fun v wr => ∃ k : Nat, v = .int .i64 (k : Int) ∧ k ≤ l.length ∧ wr = W ∧ Hid (∀ j x, k ≤ j → l[j]? = some x → x = 0)) (fun v _ => (intOf v).toNat)
  case atStart => exact ⟨l.length, rfl, Nat.le_refl _, rfl, hid fun j x hj hx => absurd (List.getElem?_eq_some_iff.1 hx).1 (by omega)⟩
  case round =>
    obtain ⟨k, rfl, hk, rfl, hH⟩ := hrel
    by_cases hgo : k = 0 ∨ ∃ x, l[k - 1]? = some x ∧ x ≠ 0
    · have hgl := hid (glim_take (by omega) hl hk hH.out hgo)
      have hkc : (k : Int) ≤ (cap : Int) := by omega
      have hnz : Hid (decide (gval 4294967296 l ≠ 0) = decide (0 < k)) := hid (by
        rw [Bool.eq_iff_iff]; simp only [decide_eq_true_eq]
        constructor
        · intro h1
          refine Nat.pos_of_ne_zero fun e => h1 ?_
          have := hgl.out
          rw [e, List.take_zero] at this
          exact (glim_nil (by omega)).1 this
        · intro h1 h2
          have := hgl.out
          rw [h2, glim_zero] at this
          have := congrArg List.length this
          rw [List.length_take] at this
          simp at this; omega)
      by_cases h0 : k = 0
      · subst h0
        have hGe : G = [] := by rw [← hG'.out, hgl.out, List.take_zero]
        have hbe : bR = false := by rw [← hbR'.out, hnz.out]; simp
        subst hGe hbe
        clear hgl hnz hgo hH hG' hbR'
        cases ao with
        | none =>
          cases neg
          · go_wp2
            refine wp_region_held_drew (S := fun w' => w'.cell? ⟨w.heap.size, 0, none⟩ = some (.bool false) ∧ w'.cell? ⟨w.heap.size, 1, none⟩ = some (.slice none l.length cap)) (by kernel_rfl) (by go_keep) (fun hHeld => ?_)
            refine wpAnyH_take (i := 0) (oi := _) (v := ?_) rfl (by kernel_rfl) (by kernel_rfl) (by kernel_rfl) (fun _ _ _ h => h) (Or.inl ⟨by rfl, ?_⟩) (by assumption) ?_
            rotate_left 1
            · (intro w hSw; (try dsimp only at hSw); go_simp; try with_reducible rfl)
            try simp (maxSteps := 10000000) only [List.getElem_toArray, List.getElem_cons_succ, List.getElem_cons_zero, Act.put, List.setIfInBounds_toArray, List.set_cons_zero, List.set_cons_succ]
            refine wpAnyH_take (i := 1) (oi := _) (v := ?_) rfl (by kernel_rfl) (by kernel_rfl) (by kernel_rfl) (fun _ _ _ h => h) (Or.inl ⟨by rfl, ?_⟩) (by assumption) ?_
            rotate_left 1
            · (intro w hSw; (try dsimp only at hSw); go_simp; try with_reducible rfl)
            try simp (maxSteps := 10000000) only [List.getElem_toArray, List.getElem_cons_succ, List.getElem_cons_zero, Act.put, List.setIfInBounds_toArray, List.set_cons_zero, List.set_cons_succ]
            refine wpAnyH_take (i := 2) (oi := _) (v := ?_) rfl (by kernel_rfl) (by kernel_rfl) (by kernel_rfl) (fun _ _ _ h => h) (Or.inl ⟨by rfl, ?_⟩) (by assumption) ?_
            rotate_left 1
            · (intro w hSw; (try dsimp only at hSw); go_simp; try with_reducible rfl)
            try simp (maxSteps := 10000000) only [List.getElem_toArray, List.getElem_cons_succ, List.getElem_cons_zero, Act.put, List.setIfInBounds_toArray, List.set_cons_zero, List.set_cons_succ]
            refine wpAnyH_take (i := 3) (oi := _) (v := undef) rfl (by kernel_rfl) (by kernel_rfl) (by kernel_rfl) (fun _ _ _ h => h) (Or.inr ⟨by rfl, rfl⟩) (by assumption) ?_
            try simp (maxSteps := 10000000) only [List.getElem_toArray, List.getElem_cons_succ, List.getElem_cons_zero, Act.put, List.setIfInBounds_toArray, List.set_cons_zero, List.set_cons_succ]
            refine wpAnyH_take (i := 4) (oi := _) (v := undef) rfl (by kernel_rfl) (by kernel_rfl) (by kernel_rfl) (fun _ _ _ h => h) (Or.inr ⟨by rfl, rfl⟩) (by assumption) ?_
            try simp (maxSteps := 10000000) only [List.getElem_toArray, List.getElem_cons_succ, List.getElem_cons_zero, Act.put, List.setIfInBounds_toArray, List.set_cons_zero, List.set_cons_succ]
            refine wpAnyH_take (i := 5) (oi := _) (v := ?_) rfl (by kernel_rfl) (by kernel_rfl) (by kernel_rfl) (fun _ _ _ h => h) (Or.inl ⟨by rfl, ?_⟩) (by assumption) ?_
            rotate_left 1
            · (intro w hSw; (try dsimp only at hSw); go_simp; try with_reducible rfl)
            try simp (maxSteps := 10000000) only [List.getElem_toArray, List.getElem_cons_succ, List.getElem_cons_zero, Act.put, List.setIfInBounds_toArray, List.set_cons_zero, List.set_cons_succ]
            refine wpAnyH_take (i := 6) (oi := _) (v := ?_) rfl (by kernel_rfl) (by kernel_rfl) (by kernel_rfl) (fun _ _ _ h => h) (Or.inl ⟨by rfl, ?_⟩) (by assumption) ?_
            rotate_left 1
            · (intro w hSw; (try dsimp only at hSw); go_simp; try with_reducible rfl)
            try simp (maxSteps := 10000000) only [List.getElem_toArray, List.getElem_cons_succ, List.getElem_cons_zero, Act.put, List.setIfInBounds_toArray, List.set_cons_zero, List.set_cons_succ]
            refine wpAnyH_take (i := 7) (oi := _) (v := ?_) rfl (by kernel_rfl) (by kernel_rfl) (by kernel_rfl) (fun _ _ _ h => h) (Or.inl ⟨by rfl, ?_⟩) (by assumption) ?_
            rotate_left 1
            · (intro w hSw; (try dsimp only at hSw); go_simp; try with_reducible rfl)
            try simp (maxSteps := 10000000) only [List.getElem_toArray, List.getElem_cons_succ, List.getElem_cons_zero, Act.put, List.setIfInBounds_toArray, List.set_cons_zero, List.set_cons_succ]
            refine wpAnyH_take (i := 8) (oi := _) (v := ?_) rfl (by kernel_rfl) (by kernel_rfl) (by kernel_rfl) (fun _ _ _ h => h) (Or.inl ⟨by rfl, ?_⟩) (by assumption) ?_
            rotate_left 1
            · (intro w hSw; (try dsimp only at hSw); go_simp; try with_reducible rfl)
            try simp (maxSteps := 10000000) only [List.getElem_toArray, List.getElem_cons_succ, List.getElem_cons_zero, Act.put, List.setIfInBounds_toArray, List.set_cons_zero, List.set_cons_succ]
            refine wpAnyH_take (i := 9) (oi := _) (v := ?_) rfl (by kernel_rfl) (by kernel_rfl) (by kernel_rfl) (fun _ _ _ h => h) (Or.inl ⟨by rfl, ?_⟩) (by assumption) ?_
            rotate_left 1
            · (intro w hSw; (try dsimp only at hSw); go_simp; try with_reducible rfl)
            try simp (maxSteps := 10000000) only [List.getElem_toArray, List.getElem_cons_succ, List.getElem_cons_zero, Act.put, List.setIfInBounds_toArray, List.set_cons_zero, List.set_cons_succ]
            refine wpAnyH_ready (rs := [10]) (by kernel_rfl) (by simp) ?_
            refine AllReadyH.cons rfl (fun K hK => ?_) AllReadyH.nil
            go_simp
            skip
            try go_simp
            refine hK.out _ _ ?_ (fun hHeld => ?_)
            · first | assumption | go_keep | (refine ⟨?_, ?_⟩ <;> (rw [World.cell?_setCell_other _ _ _ _ (by simp; try omega), World.cell?_setCell_other _ _ _ _ (by simp; try omega)]; assumption))
            clear hK K
            try simp (maxSteps := 10000000) only [List.getElem_toArray, List.getElem_cons_succ, List.getElem_cons_zero, Act.put, List.setIfInBounds_toArray, List.set_cons_zero, List.set_cons_succ]
            refine wpAnyH_take (i := 11) (oi := _) (v := ?_) rfl (by kernel_rfl) (by kernel_rfl) (by kernel_rfl) (fun _ _ _ h => h) (Or.inl ⟨by rfl, ?_⟩) (by assumption) ?_
            rotate_left 1
            · (intro w hSw; (try dsimp only at hSw); go_simp; try with_reducible rfl)
            try simp (maxSteps := 10000000) only [List.getElem_toArray, List.getElem_cons_succ, List.getElem_cons_zero, Act.put, List.setIfInBounds_toArray, List.set_cons_zero, List.set_cons_succ]
            refine wpAnyH_ready (rs := [12]) (by kernel_rfl) (by simp) ?_
            refine AllReadyH.cons rfl (fun K hK => ?_) AllReadyH.nil
            go_simp
            skip
            try go_simp
            refine hK.out _ _ ?_ (fun hHeld => ?_)
            · first | assumption | go_keep | (refine ⟨?_, ?_⟩ <;> (rw [World.cell?_setCell_other _ _ _ _ (by simp; try omega), World.cell?_setCell_other _ _ _ _ (by simp; try omega)]; assumption))
            clear hK K
            try simp (maxSteps := 10000000) only [List.getElem_toArray, List.getElem_cons_succ, List.getElem_cons_zero, Act.put, List.setIfInBounds_toArray, List.set_cons_zero, List.set_cons_succ]
            refine wpAnyH_done (by kernel_rfl) ?_ _
            go_wp2
            refine bodyPost_ret (v := .agg #[.bool false, .slice none 0 0]) (by simp [results, Tryd.results55, go_sem, f5, f6]) rfl ⟨_, rfl, Fr.nil _ _, ?_⟩
            exact ((hB0.setCell (p := ⟨w.heap.size + 1, 0, none⟩) (by simp) _).setCell (p := ⟨w.heap.size + 1, 1, none⟩) (by simp) _).drew
          · go_wp2
            refine wp_region_held_drew (S := fun w' => w'.cell? ⟨w.heap.size, 0, none⟩ = some (.bool true) ∧ w'.cell? ⟨w.heap.size, 1, none⟩ = some (.slice none l.length cap)) (by kernel_rfl) (by go_keep) (fun hHeld => ?_)
            refine wpAnyH_take (i := 0) (oi := _) (v := ?_) rfl (by kernel_rfl) (by kernel_rfl) (by kernel_rfl) (fun _ _ _ h => h) (Or.inl ⟨by rfl, ?_⟩) (by assumption) ?_
            rotate_left 1
            · (intro w hSw; (try dsimp only at hSw); go_simp; try with_reducible rfl)
            try simp (maxSteps := 10000000) only [List.getElem_toArray, List.getElem_cons_succ, List.getElem_cons_zero, Act.put, List.setIfInBounds_toArray, List.set_cons_zero, List.set_cons_succ]
            refine wpAnyH_take (i := 1) (oi := _) (v := ?_) rfl (by kernel_rfl) (by kernel_rfl) (by kernel_rfl) (fun _ _ _ h => h) (Or.inl ⟨by rfl, ?_⟩) (by assumption) ?_
            rotate_left 1
            · (intro w hSw; (try dsimp only at hSw); go_simp; try with_reducible rfl)
            try simp (maxSteps := 10000000) only [List.getElem_toArray, List.getElem_cons_succ, List.getElem_cons_zero, Act.put, List.setIfInBounds_toArray, List.set_cons_zero, List.set_cons_succ]
            refine wpAnyH_take (i := 2) (oi := _) (v := ?_) rfl (by kernel_rfl) (by kernel_rfl) (by kernel_rfl) (fun _ _ _ h => h) (Or.inl ⟨by rfl, ?_⟩) (by assumption) ?_
            rotate_left 1
            · (intro w hSw; (try dsimp only at hSw); go_simp; try with_reducible rfl)
            try simp (maxSteps := 10000000) only [List.getElem_toArray, List.getElem_cons_succ, List.getElem_cons_zero, Act.put, List.setIfInBounds_toArray, List.set_cons_zero, List.set_cons_succ]
            refine wpAnyH_take (i := 3) (oi := _) (v := ?_) rfl (by kernel_rfl) (by kernel_rfl) (by kernel_rfl) (fun _ _ _ h => h) (Or.inl ⟨by rfl, ?_⟩) (by assumption) ?_
            rotate_left 1
            · (intro w hSw; (try dsimp only at hSw); go_simp; try with_reducible rfl)
            try simp (maxSteps := 10000000) only [List.getElem_toArray, List.getElem_cons_succ, List.getElem_cons_zero, Act.put, List.setIfInBounds_toArray, List.set_cons_zero, List.set_cons_succ]
            refine wpAnyH_take (i := 4) (oi := _) (v := ?_) rfl (by kernel_rfl) (by kernel_rfl) (by kernel_rfl) (fun _ _ _ h => h) (Or.inl ⟨by rfl, ?_⟩) (by assumption) ?_
            rotate_left 1
            · (intro w hSw; (try dsimp only at hSw); go_simp; try with_reducible rfl)
            try simp (maxSteps := 10000000) only [List.getElem_toArray, List.getElem_cons_succ, List.getElem_cons_zero, Act.put, List.setIfInBounds_toArray, List.set_cons_zero, List.set_cons_succ]
            refine wpAnyH_take (i := 5) (oi := _) (v := ?_) rfl (by kernel_rfl) (by kernel_rfl) (by kernel_rfl) (fun _ _ _ h => h) (Or.inl ⟨by rfl, ?_⟩) (by assumption) ?_
            rotate_left 1
            · (intro w hSw; (try dsimp only at hSw); go_simp; try with_reducible rfl)
            try simp (maxSteps := 10000000) only [List.getElem_toArray, List.getElem_cons_succ, List.getElem_cons_zero, Act.put, List.setIfInBounds_toArray, List.set_cons_zero, List.set_cons_succ]
            refine wpAnyH_take (i := 6) (oi := _) (v := ?_) rfl (by kernel_rfl) (by kernel_rfl) (by kernel_rfl) (fun _ _ _ h => h) (Or.inl ⟨by rfl, ?_⟩) (by assumption) ?_
            rotate_left 1
            · (intro w hSw; (try dsimp only at hSw); go_simp; try with_reducible rfl)
            try simp (maxSteps := 10000000) only [List.getElem_toArray, List.getElem_cons_succ, List.getElem_cons_zero, Act.put, List.setIfInBounds_toArray, List.set_cons_zero, List.set_cons_succ]
            refine wpAnyH_take (i := 7) (oi := _) (v := ?_) rfl (by kernel_rfl) (by kernel_rfl) (by kernel_rfl) (fun _ _ _ h => h) (Or.inl ⟨by rfl, ?_⟩) (by assumption) ?_
            rotate_left 1
            · (intro w hSw; (try dsimp only at hSw); go_simp; try with_reducible rfl)
            try simp (maxSteps := 10000000) only [List.getElem_toArray, List.getElem_cons_succ, List.getElem_cons_zero, Act.put, List.setIfInBounds_toArray, List.set_cons_zero, List.set_cons_succ]
            refine wpAnyH_take (i := 8) (oi := _) (v := ?_) rfl (by kernel_rfl) (by kernel_rfl) (by kernel_rfl) (fun _ _ _ h => h) (Or.inl ⟨by rfl, ?_⟩) (by assumption) ?_
            rotate_left 1
            · (intro w hSw; (try dsimp only at hSw); go_simp; try with_reducible rfl)
            try simp (maxSteps := 10000000) only [List.getElem_toArray, List.getElem_cons_succ, List.getElem_cons_zero, Act.put, List.setIfInBounds_toArray, List.set_cons_zero, List.set_cons_succ]
            refine wpAnyH_take (i := 9) (oi := _) (v := ?_) rfl (by kernel_rfl) (by kernel_rfl) (by kernel_rfl) (fun _ _ _ h => h) (Or.inl ⟨by rfl, ?_⟩) (by assumption) ?_
            rotate_left 1
            · (intro w hSw; (try dsimp only at hSw); go_simp; try with_reducible rfl)
            try simp (maxSteps := 10000000) only [List.getElem_toArray, List.getElem_cons_succ, List.getElem_cons_zero, Act.put, List.setIfInBounds_toArray, List.set_cons_zero, List.set_cons_succ]
            refine wpAnyH_ready (rs := [10]) (by kernel_rfl) (by simp) ?_
            refine AllReadyH.cons rfl (fun K hK => ?_) AllReadyH.nil
            go_simp
            skip
            try go_simp
            refine hK.out _ _ ?_ (fun hHeld => ?_)
            · first | assumption | go_keep | (refine ⟨?_, ?_⟩ <;> (rw [World.cell?_setCell_other _ _ _ _ (by simp; try omega), World.cell?_setCell_other _ _ _ _ (by simp; try omega)]; assumption))
            clear hK K
            try simp (maxSteps := 10000000) only [List.getElem_toArray, List.getElem_cons_succ, List.getElem_cons_zero, Act.put, List.setIfInBounds_toArray, List.set_cons_zero, List.set_cons_succ]
            refine wpAnyH_take (i := 11) (oi := _) (v := ?_) rfl (by kernel_rfl) (by kernel_rfl) (by kernel_rfl) (fun _ _ _ h => h) (Or.inl ⟨by rfl, ?_⟩) (by assumption) ?_
            rotate_left 1
            · (intro w hSw; (try dsimp only at hSw); go_simp; try with_reducible rfl)
            try simp (maxSteps := 10000000) only [List.getElem_toArray, List.getElem_cons_succ, List.getElem_cons_zero, Act.put, List.setIfInBounds_toArray, List.set_cons_zero, List.set_cons_succ]
            refine wpAnyH_ready (rs := [12]) (by kernel_rfl) (by simp) ?_
            refine AllReadyH.cons rfl (fun K hK => ?_) AllReadyH.nil
            go_simp
            skip
            try go_simp
            refine hK.out _ _ ?_ (fun hHeld => ?_)
            · first | assumption | go_keep | (refine ⟨?_, ?_⟩ <;> (rw [World.cell?_setCell_other _ _ _ _ (by simp; try omega), World.cell?_setCell_other _ _ _ _ (by simp; try omega)]; assumption))
            clear hK K
            try simp (maxSteps := 10000000) only [List.getElem_toArray, List.getElem_cons_succ, List.getElem_cons_zero, Act.put, List.setIfInBounds_toArray, List.set_cons_zero, List.set_cons_succ]
            refine wpAnyH_done (by kernel_rfl) ?_ _
            go_wp2
            refine bodyPost_ret (v := .agg #[.bool false, .slice none 0 0]) (by simp [results, Tryd.results55, go_sem, f5, f6]) rfl ⟨_, rfl, Fr.nil _ _, ?_⟩
            exact ((hB0.setCell (p := ⟨w.heap.size + 1, 0, none⟩) (by simp) _).setCell (p := ⟨w.heap.size + 1, 1, none⟩) (by simp) _).drew
        | some ad =>
          cases neg
          · go_wp2
            refine wp_region_held_drew (S := fun w' => w'.cell? ⟨w.heap.size, 0, none⟩ = some (.bool false) ∧ w'.cell? ⟨w.heap.size, 1, none⟩ = some (.slice (some ad) l.length cap)) (by kernel_rfl) (by go_keep) (fun hHeld => ?_)
            refine wpAnyH_take (i := 0) (oi := _) (v := ?_) rfl (by kernel_rfl) (by kernel_rfl) (by kernel_rfl) (fun _ _ _ h => h) (Or.inl ⟨by rfl, ?_⟩) (by assumption) ?_
            rotate_left 1
            · (intro w hSw; (try dsimp only at hSw); go_simp; try with_reducible rfl)
            try simp (maxSteps := 10000000) only [List.getElem_toArray, List.getElem_cons_succ, List.getElem_cons_zero, Act.put, List.setIfInBounds_toArray, List.set_cons_zero, List.set_cons_succ]
            refine wpAnyH_take (i := 1) (oi := _) (v := ?_) rfl (by kernel_rfl) (by kernel_rfl) (by kernel_rfl) (fun _ _ _ h => h) (Or.inl ⟨by rfl, ?_⟩) (by assumption) ?_
            rotate_left 1
            · (intro w hSw; (try dsimp only at hSw); go_simp; try with_reducible rfl)
            try simp (maxSteps := 10000000) only [List.getElem_toArray, List.getElem_cons_succ, List.getElem_cons_zero, Act.put, List.setIfInBounds_toArray, List.set_cons_zero, List.set_cons_succ]
            refine wpAnyH_take (i := 2) (oi := _) (v := ?_) rfl (by kernel_rfl) (by kernel_rfl) (by kernel_rfl) (fun _ _ _ h => h) (Or.inl ⟨by rfl, ?_⟩) (by assumption) ?_
            rotate_left 1
            · (intro w hSw; (try dsimp only at hSw); go_simp; try with_reducible rfl)
            try simp (maxSteps := 10000000) only [List.getElem_toArray, List.getElem_cons_succ, List.getElem_cons_zero, Act.put, List.setIfInBounds_toArray, List.set_cons_zero, List.set_cons_succ]
            refine wpAnyH_take (i := 3) (oi := _) (v := undef) rfl (by kernel_rfl) (by kernel_rfl) (by kernel_rfl) (fun _ _ _ h => h) (Or.inr ⟨by rfl, rfl⟩) (by assumption) ?_
            try simp (maxSteps := 10000000) only [List.getElem_toArray, List.getElem_cons_succ, List.getElem_cons_zero, Act.put, List.setIfInBounds_toArray, List.set_cons_zero, List.set_cons_succ]
            refine wpAnyH_take (i := 4) (oi := _) (v := undef) rfl (by kernel_rfl) (by kernel_rfl) (by kernel_rfl) (fun _ _ _ h => h) (Or.inr ⟨by rfl, rfl⟩) (by assumption) ?_
            try simp (maxSteps := 10000000) only [List.getElem_toArray, List.getElem_cons_succ, List.getElem_cons_zero, Act.put, List.setIfInBounds_toArray, List.set_cons_zero, List.set_cons_succ]
            refine wpAnyH_take (i := 5) (oi := _) (v := ?_) rfl (by kernel_rfl) (by kernel_rfl) (by kernel_rfl) (fun _ _ _ h => h) (Or.inl ⟨by rfl, ?_⟩) (by assumption) ?_
            rotate_left 1
            · (intro w hSw; (try dsimp only at hSw); go_simp; try with_reducible rfl)
            try simp (maxSteps := 10000000) only [List.getElem_toArray, List.getElem_cons_succ, List.getElem_cons_zero, Act.put, List.setIfInBounds_toArray, List.set_cons_zero, List.set_cons_succ]
            refine wpAnyH_take (i := 6) (oi := _) (v := ?_) rfl (by kernel_rfl) (by kernel_rfl) (by kernel_rfl) (fun _ _ _ h => h) (Or.inl ⟨by rfl, ?_⟩) (by assumption) ?_
            rotate_left 1
            · (intro w hSw; (try dsimp only at hSw); go_simp; try with_reducible rfl)
            try simp (maxSteps := 10000000) only [List.getElem_toArray, List.getElem_cons_succ, List.getElem_cons_zero, Act.put, List.setIfInBounds_toArray, List.set_cons_zero, List.set_cons_succ]
            refine wpAnyH_take (i := 7) (oi := _) (v := ?_) rfl (by kernel_rfl) (by kernel_rfl) (by kernel_rfl) (fun _ _ _ h => h) (Or.inl ⟨by rfl, ?_⟩) (by assumption) ?_
            rotate_left 1
            · (intro w hSw; (try dsimp only at hSw); go_simp; try with_reducible rfl)
            try simp (maxSteps := 10000000) only [List.getElem_toArray, List.getElem_cons_succ, List.getElem_cons_zero, Act.put, List.setIfInBounds_toArray, List.set_cons_zero, List.set_cons_succ]
            refine wpAnyH_take (i := 8) (oi := _) (v := ?_) rfl (by kernel_rfl) (by kernel_rfl) (by kernel_rfl) (fun _ _ _ h => h) (Or.inl ⟨by rfl, ?_⟩) (by assumption) ?_
            rotate_left 1
            · (intro w hSw; (try dsimp only at hSw); go_simp; try with_reducible rfl)
            try simp (maxSteps := 10000000) only [List.getElem_toArray, List.getElem_cons_succ, List.getElem_cons_zero, Act.put, List.setIfInBounds_toArray, List.set_cons_zero, List.set_cons_succ]
            refine wpAnyH_take (i := 9) (oi := _) (v := ?_) rfl (by kernel_rfl) (by kernel_rfl) (by kernel_rfl) (fun _ _ _ h => h) (Or.inl ⟨by rfl, ?_⟩) (by assumption) ?_
            rotate_left 1
            · (intro w hSw; (try dsimp only at hSw); go_simp; try with_reducible rfl)
            try simp (maxSteps := 10000000) only [List.getElem_toArray, List.getElem_cons_succ, List.getElem_cons_zero, Act.put, List.setIfInBounds_toArray, List.set_cons_zero, List.set_cons_succ]
            refine wpAnyH_ready (rs := [10]) (by kernel_rfl) (by simp) ?_
            refine AllReadyH.cons rfl (fun K hK => ?_) AllReadyH.nil
            go_simp
            skip
            try go_simp
            refine hK.out _ _ ?_ (fun hHeld => ?_)
            · first | assumption | go_keep | (refine ⟨?_, ?_⟩ <;> (rw [World.cell?_setCell_other _ _ _ _ (by simp; try omega), World.cell?_setCell_other _ _ _ _ (by simp; try omega)]; assumption))
            clear hK K
            try simp (maxSteps := 10000000) only [List.getElem_toArray, List.getElem_cons_succ, List.getElem_cons_zero, Act.put, List.setIfInBounds_toArray, List.set_cons_zero, List.set_cons_succ]
            refine wpAnyH_take (i := 11) (oi := _) (v := ?_) rfl (by kernel_rfl) (by kernel_rfl) (by kernel_rfl) (fun _ _ _ h => h) (Or.inl ⟨by rfl, ?_⟩) (by assumption) ?_
            rotate_left 1
            · (intro w hSw; (try dsimp only at hSw); go_simp; try with_reducible rfl)
            try simp (maxSteps := 10000000) only [List.getElem_toArray, List.getElem_cons_succ, List.getElem_cons_zero, Act.put, List.setIfInBounds_toArray, List.set_cons_zero, List.set_cons_succ]
            refine wpAnyH_ready (rs := [12]) (by kernel_rfl) (by simp) ?_
            refine AllReadyH.cons rfl (fun K hK => ?_) AllReadyH.nil
            go_simp
            skip
            try go_simp
            refine hK.out _ _ ?_ (fun hHeld => ?_)
            · first | assumption | go_keep | (refine ⟨?_, ?_⟩ <;> (rw [World.cell?_setCell_other _ _ _ _ (by simp; try omega), World.cell?_setCell_other _ _ _ _ (by simp; try omega)]; assumption))
            clear hK K
            try simp (maxSteps := 10000000) only [List.getElem_toArray, List.getElem_cons_succ, List.getElem_cons_zero, Act.put, List.setIfInBounds_toArray, List.set_cons_zero, List.set_cons_succ]
            refine wpAnyH_done (by kernel_rfl) ?_ _
            go_wp2
            refine bodyPost_ret (v := .agg #[.bool false, .slice none 0 0]) (by simp [results, Tryd.results55, go_sem, f5, f6]) rfl ⟨_, rfl, Fr.nil _ _, ?_⟩
            exact ((hB0.setCell (p := ⟨w.heap.size + 1, 0, none⟩) (by simp) _).setCell (p := ⟨w.heap.size + 1, 1, none⟩) (by simp) _).drew
          · go_wp2
            refine wp_region_held_drew (S := fun w' => w'.cell? ⟨w.heap.size, 0, none⟩ = some (.bool true) ∧ w'.cell? ⟨w.heap.size, 1, none⟩ = some (.slice (some ad) l.length cap)) (by kernel_rfl) (by go_keep) (fun hHeld => ?_)
            refine wpAnyH_take (i := 0) (oi := _) (v := ?_) rfl (by kernel_rfl) (by kernel_rfl) (by kernel_rfl) (fun _ _ _ h => h) (Or.inl ⟨by rfl, ?_⟩) (by assumption) ?_
            rotate_left 1
            · (intro w hSw; (try dsimp only at hSw); go_simp; try with_reducible rfl)
            try simp (maxSteps := 10000000) only [List.getElem_toArray, List.getElem_cons_succ, List.getElem_cons_zero, Act.put, List.setIfInBounds_toArray, List.set_cons_zero, List.set_cons_succ]
            refine wpAnyH_take (i := 1) (oi := _) (v := ?_) rfl (by kernel_rfl) (by kernel_rfl) (by kernel_rfl) (fun _ _ _ h => h) (Or.inl ⟨by rfl, ?_⟩) (by assumption) ?_
            rotate_left 1
            · (intro w hSw; (try dsimp only at hSw); go_simp; try with_reducible rfl)
            try simp (maxSteps := 10000000) only [List.getElem_toArray, List.getElem_cons_succ, List.getElem_cons_zero, Act.put, List.setIfInBounds_toArray, List.set_cons_zero, List.set_cons_succ]
            refine wpAnyH_take (i := 2) (oi := _) (v := ?_) rfl (by kernel_rfl) (by kernel_rfl) (by kernel_rfl) (fun _ _ _ h => h) (Or.inl ⟨by rfl, ?_⟩) (by assumption) ?_
            rotate_left 1
            · (intro w hSw; (try dsimp only at hSw); go_simp; try with_reducible rfl)
            try simp (maxSteps := 10000000) only [List.getElem_toArray, List.getElem_cons_succ, List.getElem_cons_zero, Act.put, List.setIfInBounds_toArray, List.set_cons_zero, List.set_cons_succ]
            refine wpAnyH_take (i := 3) (oi := _) (v := ?_) rfl (by kernel_rfl) (by kernel_rfl) (by kernel_rfl) (fun _ _ _ h => h) (Or.inl ⟨by rfl, ?_⟩) (by assumption) ?_
            rotate_left 1
            · (intro w hSw; (try dsimp only at hSw); go_simp; try with_reducible rfl)
            try simp (maxSteps := 10000000) only [List.getElem_toArray, List.getElem_cons_succ, List.getElem_cons_zero, Act.put, List.setIfInBounds_toArray, List.set_cons_zero, List.set_cons_succ]
            refine wpAnyH_take (i := 4) (oi := _) (v := ?_) rfl (by kernel_rfl) (by kernel_rfl) (by kernel_rfl) (fun _ _ _ h => h) (Or.inl ⟨by rfl, ?_⟩) (by assumption) ?_
            rotate_left 1
            · (intro w hSw; (try dsimp only at hSw); go_simp; try with_reducible rfl)
            try simp (maxSteps := 10000000) only [List.getElem_toArray, List.getElem_cons_succ, List.getElem_cons_zero, Act.put, List.setIfInBounds_toArray, List.set_cons_zero, List.set_cons_succ]
            refine wpAnyH_take (i := 5) (oi := _) (v := ?_) rfl (by kernel_rfl) (by kernel_rfl) (by kernel_rfl) (fun _ _ _ h => h) (Or.inl ⟨by rfl, ?_⟩) (by assumption) ?_
            rotate_left 1
            · (intro w hSw; (try dsimp only at hSw); go_simp; try with_reducible rfl)
            try simp (maxSteps := 10000000) only [List.getElem_toArray, List.getElem_cons_succ, List.getElem_cons_zero, Act.put, List.setIfInBounds_toArray, List.set_cons_zero, List.set_cons_succ]
            refine wpAnyH_take (i := 6) (oi := _) (v := ?_) rfl (by kernel_rfl) (by kernel_rfl) (by kernel_rfl) (fun _ _ _ h => h) (Or.inl ⟨by rfl, ?_⟩) (by assumption) ?_
            rotate_left 1
            · (intro w hSw; (try dsimp only at hSw); go_simp; try with_reducible rfl)
            try simp (maxSteps := 10000000) only [List.getElem_toArray, List.getElem_cons_succ, List.getElem_cons_zero, Act.put, List.setIfInBounds_toArray, List.set_cons_zero, List.set_cons_succ]
            refine wpAnyH_take (i := 7) (oi := _) (v := ?_) rfl (by kernel_rfl) (by kernel_rfl) (by kernel_rfl) (fun _ _ _ h => h) (Or.inl ⟨by rfl, ?_⟩) (by assumption) ?_
            rotate_left 1
            · (intro w hSw; (try dsimp only at hSw); go_simp; try with_reducible rfl)
            try simp (maxSteps := 10000000) only [List.getElem_toArray, List.getElem_cons_succ, List.getElem_cons_zero, Act.put, List.setIfInBounds_toArray, List.set_cons_zero, List.set_cons_succ]
            refine wpAnyH_take (i := 8) (oi := _) (v := ?_) rfl (by kernel_rfl) (by kernel_rfl) (by kernel_rfl) (fun _ _ _ h => h) (Or.inl ⟨by rfl, ?_⟩) (by assumption) ?_
            rotate_left 1
            · (intro w hSw; (try dsimp only at hSw); go_simp; try with_reducible rfl)
            try simp (maxSteps := 10000000) only [List.getElem_toArray, List.getElem_cons_succ, List.getElem_cons_zero, Act.put, List.setIfInBounds_toArray, List.set_cons_zero, List.set_cons_succ]
            refine wpAnyH_take (i := 9) (oi := _) (v := ?_) rfl (by kernel_rfl) (by kernel_rfl) (by kernel_rfl) (fun _ _ _ h => h) (Or.inl ⟨by rfl, ?_⟩) (by assumption) ?_
            rotate_left 1
            · (intro w hSw; (try dsimp only at hSw); go_simp; try with_reducible rfl)
            try simp (maxSteps := 10000000) only [List.getElem_toArray, List.getElem_cons_succ, List.getElem_cons_zero, Act.put, List.setIfInBounds_toArray, List.set_cons_zero, List.set_cons_succ]
            refine wpAnyH_ready (rs := [10]) (by kernel_rfl) (by simp) ?_
            refine AllReadyH.cons rfl (fun K hK => ?_) AllReadyH.nil
            go_simp
            skip
            try go_simp
            refine hK.out _ _ ?_ (fun hHeld => ?_)
            · first | assumption | go_keep | (refine ⟨?_, ?_⟩ <;> (rw [World.cell?_setCell_other _ _ _ _ (by simp; try omega), World.cell?_setCell_other _ _ _ _ (by simp; try omega)]; assumption))
            clear hK K
            try simp (maxSteps := 10000000) only [List.getElem_toArray, List.getElem_cons_succ, List.getElem_cons_zero, Act.put, List.setIfInBounds_toArray, List.set_cons_zero, List.set_cons_succ]
            refine wpAnyH_take (i := 11) (oi := _) (v := ?_) rfl (by kernel_rfl) (by kernel_rfl) (by kernel_rfl) (fun _ _ _ h => h) (Or.inl ⟨by rfl, ?_⟩) (by assumption) ?_
            rotate_left 1
            · (intro w hSw; (try dsimp only at hSw); go_simp; try with_reducible rfl)
            try simp (maxSteps := 10000000) only [List.getElem_toArray, List.getElem_cons_succ, List.getElem_cons_zero, Act.put, List.setIfInBounds_toArray, List.set_cons_zero, List.set_cons_succ]
            refine wpAnyH_ready (rs := [12]) (by kernel_rfl) (by simp) ?_
            refine AllReadyH.cons rfl (fun K hK => ?_) AllReadyH.nil
            go_simp
            skip
            try go_simp
            refine hK.out _ _ ?_ (fun hHeld => ?_)
            · first | assumption | go_keep | (refine ⟨?_, ?_⟩ <;> (rw [World.cell?_setCell_other _ _ _ _ (by simp; try omega), World.cell?_setCell_other _ _ _ _ (by simp; try omega)]; assumption))
            clear hK K
            try simp (maxSteps := 10000000) only [List.getElem_toArray, List.getElem_cons_succ, List.getElem_cons_zero, Act.put, List.setIfInBounds_toArray, List.set_cons_zero, List.set_cons_succ]
            refine wpAnyH_done (by kernel_rfl) ?_ _
            go_wp2
            refine bodyPost_ret (v := .agg #[.bool false, .slice none 0 0]) (by simp [results, Tryd.results55, go_sem, f5, f6]) rfl ⟨_, rfl, Fr.nil _ _, ?_⟩
            exact ((hB0.setCell (p := ⟨w.heap.size + 1, 0, none⟩) (by simp) _).setCell (p := ⟨w.heap.size + 1, 1, none⟩) (by simp) _).drew
      · obtain ⟨x, hx, hx0⟩ := hgo.resolve_left h0
        obtain ⟨a, rfl, cx⟩ := hLW (k - 1) x hx
        obtain ⟨m, rfl⟩ : ∃ m, k = m + 1 := ⟨k - 1, by omega⟩
        have hlk : (l.take (m + 1)).length = m + 1 := by rw [List.length_take]; omega
        have e1 : (((m + 1 : Nat) : Int) - 1) = (m : Int) := by omega
        have e2 : ((m : Int) + 1 - 1) = (m : Int) := by omega
        have hml : (m : Int) < (l.length : Int) := by omega
        have sl1 : (0 : Int) ≤ (m : Int) + 1 := by omega
        have sl2 : (m : Int) + 1 ≤ (cap : Int) := by omega
        have hpos : (0 : Int) < ((m + 1 : Nat) : Int) := by omega
        rw [Nat.add_sub_cancel] at cx
        have hxz : ((x : Int) == 0) = false := by simp only [beq_eq_false_iff_ne, ne_eq]; omega
        have hGe : G = l.take (m + 1) := by rw [← hG'.out, hgl.out]
        have hbe : bR = neg := by rw [← hbR'.out, hnz.out]; simp
        subst hbe
        have hGe' := hid hGe
        clear hGe
        have hLt := hid (hLW.take (m + 1))
        obtain ⟨i0, hi, hy0, hy1, hy2⟩ := info_parts info32u
        clear hgl hnz hgo hH hx h0 hG' hbR'
        cases bR
        · go_wp2
          refine wp_region_held_drew (S := fun w' => w'.cell? ⟨w.heap.size, 0, none⟩ = some (.bool false) ∧ w'.cell? ⟨w.heap.size, 1, none⟩ = some (.slice (some a) l.length cap)) (by kernel_rfl) (by go_keep) (fun hHeld => ?_)
          refine wpAnyH_take (i := 0) (oi := _) (v := ?_) rfl (by kernel_rfl) (by kernel_rfl) (by kernel_rfl) (fun _ _ _ h => h) (Or.inl ⟨by rfl, ?_⟩) (by assumption) ?_
          rotate_left 1
          · (intro w hSw; (try dsimp only at hSw); go_simp; try with_reducible rfl)
          try simp (maxSteps := 10000000) only [List.getElem_toArray, List.getElem_cons_succ, List.getElem_cons_zero, Act.put, List.setIfInBounds_toArray, List.set_cons_zero, List.set_cons_succ]
          refine wpAnyH_take (i := 1) (oi := _) (v := ?_) rfl (by kernel_rfl) (by kernel_rfl) (by kernel_rfl) (fun _ _ _ h => h) (Or.inl ⟨by rfl, ?_⟩) (by assumption) ?_
          rotate_left 1
          · (intro w hSw; (try dsimp only at hSw); go_simp; try with_reducible rfl)
          try simp (maxSteps := 10000000) only [List.getElem_toArray, List.getElem_cons_succ, List.getElem_cons_zero, Act.put, List.setIfInBounds_toArray, List.set_cons_zero, List.set_cons_succ]
          refine wpAnyH_take (i := 2) (oi := _) (v := ?_) rfl (by kernel_rfl) (by kernel_rfl) (by kernel_rfl) (fun _ _ _ h => h) (Or.inl ⟨by rfl, ?_⟩) (by assumption) ?_
          rotate_left 1
          · (intro w hSw; (try dsimp only at hSw); go_simp; try with_reducible rfl)
          try simp (maxSteps := 10000000) only [List.getElem_toArray, List.getElem_cons_succ, List.getElem_cons_zero, Act.put, List.setIfInBounds_toArray, List.set_cons_zero, List.set_cons_succ]
          refine wpAnyH_take (i := 3) (oi := _) (v := undef) rfl (by kernel_rfl) (by kernel_rfl) (by kernel_rfl) (fun _ _ _ h => h) (Or.inr ⟨by rfl, rfl⟩) (by assumption) ?_
          try simp (maxSteps := 10000000) only [List.getElem_toArray, List.getElem_cons_succ, List.getElem_cons_zero, Act.put, List.setIfInBounds_toArray, List.set_cons_zero, List.set_cons_succ]
          refine wpAnyH_take (i := 4) (oi := _) (v := undef) rfl (by kernel_rfl) (by kernel_rfl) (by kernel_rfl) (fun _ _ _ h => h) (Or.inr ⟨by rfl, rfl⟩) (by assumption) ?_
          try simp (maxSteps := 10000000) only [List.getElem_toArray, List.getElem_cons_succ, List.getElem_cons_zero, Act.put, List.setIfInBounds_toArray, List.set_cons_zero, List.set_cons_succ]
          refine wpAnyH_take (i := 5) (oi := _) (v := ?_) rfl (by kernel_rfl) (by kernel_rfl) (by kernel_rfl) (fun _ _ _ h => h) (Or.inl ⟨by rfl, ?_⟩) (by assumption) ?_
          rotate_left 1
          · (intro w hSw; (try dsimp only at hSw); go_simp; try with_reducible rfl)
          try simp (maxSteps := 10000000) only [List.getElem_toArray, List.getElem_cons_succ, List.getElem_cons_zero, Act.put, List.setIfInBounds_toArray, List.set_cons_zero, List.set_cons_succ]
          refine wpAnyH_take (i := 6) (oi := _) (v := ?_) rfl (by kernel_rfl) (by kernel_rfl) (by kernel_rfl) (fun _ _ _ h => h) (Or.inl ⟨by rfl, ?_⟩) (by assumption) ?_
          rotate_left 1
          · (intro w hSw; (try dsimp only at hSw); go_simp; try with_reducible rfl)
          try simp (maxSteps := 10000000) only [List.getElem_toArray, List.getElem_cons_succ, List.getElem_cons_zero, Act.put, List.setIfInBounds_toArray, List.set_cons_zero, List.set_cons_succ]
          refine wpAnyH_take (i := 7) (oi := _) (v := ?_) rfl (by kernel_rfl) (by kernel_rfl) (by kernel_rfl) (fun _ _ _ h => h) (Or.inl ⟨by rfl, ?_⟩) (by assumption) ?_
          rotate_left 1
          · (intro w hSw; (try dsimp only at hSw); go_simp; try with_reducible rfl)
          try simp (maxSteps := 10000000) only [List.getElem_toArray, List.getElem_cons_succ, List.getElem_cons_zero, Act.put, List.setIfInBounds_toArray, List.set_cons_zero, List.set_cons_succ]
          refine wpAnyH_take (i := 8) (oi := _) (v := ?_) rfl (by kernel_rfl) (by kernel_rfl) (by kernel_rfl) (fun _ _ _ h => h) (Or.inl ⟨by rfl, ?_⟩) (by assumption) ?_
          rotate_left 1
          · (intro w hSw; (try dsimp only at hSw); go_simp; try with_reducible rfl)
          try simp (maxSteps := 10000000) only [List.getElem_toArray, List.getElem_cons_succ, List.getElem_cons_zero, Act.put, List.setIfInBounds_toArray, List.set_cons_zero, List.set_cons_succ]
          refine wpAnyH_take (i := 9) (oi := _) (v := ?_) rfl (by kernel_rfl) (by kernel_rfl) (by kernel_rfl) (fun _ _ _ h => h) (Or.inl ⟨by rfl, ?_⟩) (by assumption) ?_
          rotate_left 1
          · (intro w hSw; (try dsimp only at hSw); go_simp; try with_reducible rfl)
          try simp (maxSteps := 10000000) only [List.getElem_toArray, List.getElem_cons_succ, List.getElem_cons_zero, Act.put, List.setIfInBounds_toArray, List.set_cons_zero, List.set_cons_succ]
          refine wpAnyH_ready (rs := [10]) (by kernel_rfl) (by simp) ?_
          refine AllReadyH.cons rfl (fun K hK => ?_) AllReadyH.nil
          refine step_append_lies _ rfl _ _ 28 rfl wr.heap.size 42 i0 (.int .u32 0) 1 4 Tryd.underlying28 hi hy0 hy1 hy2 rfl (by decide) (.slice none 0 0) 0 [] rfl (World.ownsRow_nil _ _ _ _) a (m + 1) cap ((l.take (m + 1)).map fun (x : Nat) => Value.int .u32 (x : Int)) rfl (by rw [List.length_map, hlk]; omega) (fun j u hj => by
            rw [List.getElem?_map] at hj
            cases hx : (l.take (m + 1))[j]? with
            | none => rw [hx] at hj; simp at hj
            | some x =>
              rw [hx] at hj
              simp only [Option.map_some, Option.some.injEq] at hj
              subst hj
              obtain ⟨a', ha, hc⟩ := hLt.out j x hx
              obtain rfl := Option.some.inj ha
              exact hc) (fun u hu => by obtain ⟨x, _, rfl⟩ := List.mem_map.1 hu; rfl) (by omega) (by unfold maxLen; omega) (by omega) (by exact Nat.le_refl _) _ rfl ?_
          intro g c1 w1 hown hgrow hat hlt
          have hB1 : Below wr.heap.size wr w1 := ((Below.refl _ wr).drew).grown hgrow (Nat.le_refl _) (fun k hk => by simp [Value.ownBlock] at hk)
          obtain ⟨g1, g2, g3, g4⟩ := id (kA.below hB1 (by omega))
          obtain ⟨g5, g6, g7, g8⟩ := id (kB.below hB1 (by omega))
          have kB1 := kB.below hB1 (by omega)
          refine hK.out _ _ ?_ (fun hHeld => ?_)
          · first | assumption | go_keep | (refine ⟨?_, ?_⟩ <;> (rw [World.cell?_setCell_other _ _ _ _ (by simp; try omega), World.cell?_setCell_other _ _ _ _ (by simp; try omega)]; assumption))
          clear hK K
          try simp (maxSteps := 10000000) only [List.getElem_toArray, List.getElem_cons_succ, List.getElem_cons_zero, Act.put, List.setIfInBounds_toArray, List.set_cons_zero, List.set_cons_succ]
          refine wpAnyH_take (i := 11) (oi := _) (v := ?_) rfl (by kernel_rfl) (by kernel_rfl) (by kernel_rfl) (fun _ _ _ h => h) (Or.inl ⟨by rfl, ?_⟩) (by assumption) ?_
          rotate_left 1
          · (intro w hSw; (try dsimp only at hSw); go_simp; try with_reducible rfl)
          try simp (maxSteps := 10000000) only [List.getElem_toArray, List.getElem_cons_succ, List.getElem_cons_zero, Act.put, List.setIfInBounds_toArray, List.set_cons_zero, List.set_cons_succ]
          refine wpAnyH_ready (rs := [12]) (by kernel_rfl) (by simp) ?_
          refine AllReadyH.cons rfl (fun K hK => ?_) AllReadyH.nil
          go_simp
          skip
          try go_simp
          refine hK.out _ _ ?_ (fun hHeld => ?_)
          · first | assumption | go_keep | (refine ⟨?_, ?_⟩ <;> (rw [World.cell?_setCell_other _ _ _ _ (by simp; try omega), World.cell?_setCell_other _ _ _ _ (by simp; try omega)]; assumption))
          clear hK K
          try simp (maxSteps := 10000000) only [List.getElem_toArray, List.getElem_cons_succ, List.getElem_cons_zero, Act.put, List.setIfInBounds_toArray, List.set_cons_zero, List.set_cons_succ]
          refine wpAnyH_done (by kernel_rfl) ?_ _
          go_wp2
          have hF : Fr wr.heap.size (.slice (some ⟨g, 0, none⟩) (m + 1) c1) G w1 := by
            rw [hGe'.out]
            unfold Fr
            rw [hlk]
            simpa using hown
          have hF2 := ((hF.set (p := ⟨w.heap.size + 1, 0, none⟩) (by simp; omega) (.bool false)).set (p := ⟨w.heap.size + 1, 1, none⟩) (by simp; omega) (.slice (some ⟨g, 0, none⟩) (m + 1) c1)).mono (B' := w.heap.size) (by omega)
          have hB2 := below_and hB0 (Nat.le_refl _) hB1
          refine bodyPost_ret (v := .agg #[.bool false, .slice (some ⟨g, 0, none⟩) (m + 1) c1]) (by simp [results, Tryd.results55, go_sem, g5, g6]) rfl ⟨_, rfl, hF2, ?_⟩
          exact (hB2.setCell (p := ⟨w.heap.size + 1, 0, none⟩) (by simp) _).setCell (p := ⟨w.heap.size + 1, 1, none⟩) (by simp) _
        · go_wp2
          refine wp_region_held_drew (S := fun w' => w'.cell? ⟨w.heap.size, 0, none⟩ = some (.bool true) ∧ w'.cell? ⟨w.heap.size, 1, none⟩ = some (.slice (some a) l.length cap)) (by kernel_rfl) (by go_keep) (fun hHeld => ?_)
          refine wpAnyH_take (i := 0) (oi := _) (v := ?_) rfl (by kernel_rfl) (by kernel_rfl) (by kernel_rfl) (fun _ _ _ h => h) (Or.inl ⟨by rfl, ?_⟩) (by assumption) ?_
          rotate_left 1
          · (intro w hSw; (try dsimp only at hSw); go_simp; try with_reducible rfl)
          try simp (maxSteps := 10000000) only [List.getElem_toArray, List.getElem_cons_succ, List.getElem_cons_zero, Act.put, List.setIfInBounds_toArray, List.set_cons_zero, List.set_cons_succ]
          refine wpAnyH_take (i := 1) (oi := _) (v := ?_) rfl (by kernel_rfl) (by kernel_rfl) (by kernel_rfl) (fun _ _ _ h => h) (Or.inl ⟨by rfl, ?_⟩) (by assumption) ?_
          rotate_left 1
          · (intro w hSw; (try dsimp only at hSw); go_simp; try with_reducible rfl)
          try simp (maxSteps := 10000000) only [List.getElem_toArray, List.getElem_cons_succ, List.getElem_cons_zero, Act.put, List.setIfInBounds_toArray, List.set_cons_zero, List.set_cons_succ]
          refine wpAnyH_take (i := 2) (oi := _) (v := ?_) rfl (by kernel_rfl) (by kernel_rfl) (by kernel_rfl) (fun _ _ _ h => h) (Or.inl ⟨by rfl, ?_⟩) (by assumption) ?_
          rotate_left 1
          · (intro w hSw; (try dsimp only at hSw); go_simp; try with_reducible rfl)
          try simp (maxSteps := 10000000) only [List.getElem_toArray, List.getElem_cons_succ, List.getElem_cons_zero, Act.put, List.setIfInBounds_toArray, List.set_cons_zero, List.set_cons_succ]
          refine wpAnyH_take (i := 3) (oi := _) (v := ?_) rfl (by kernel_rfl) (by kernel_rfl) (by kernel_rfl) (fun _ _ _ h => h) (Or.inl ⟨by rfl, ?_⟩) (by assumption) ?_
          rotate_left 1
          · (intro w hSw; (try dsimp only at hSw); go_simp; try with_reducible rfl)
          try simp (maxSteps := 10000000) only [List.getElem_toArray, List.getElem_cons_succ, List.getElem_cons_zero, Act.put, List.setIfInBounds_toArray, List.set_cons_zero, List.set_cons_succ]
          refine wpAnyH_take (i := 4) (oi := _) (v := ?_) rfl (by kernel_rfl) (by kernel_rfl) (by kernel_rfl) (fun _ _ _ h => h) (Or.inl ⟨by rfl, ?_⟩) (by assumption) ?_
          rotate_left 1
          · (intro w hSw; (try dsimp only at hSw); go_simp; try with_reducible rfl)
          try simp (maxSteps := 10000000) only [List.getElem_toArray, List.getElem_cons_succ, List.getElem_cons_zero, Act.put, List.setIfInBounds_toArray, List.set_cons_zero, List.set_cons_succ]
          refine wpAnyH_take (i := 5) (oi := _) (v := ?_) rfl (by kernel_rfl) (by kernel_rfl) (by kernel_rfl) (fun _ _ _ h => h) (Or.inl ⟨by rfl, ?_⟩) (by assumption) ?_
          rotate_left 1
          · (intro w hSw; (try dsimp only at hSw); go_simp; try with_reducible rfl)
          try simp (maxSteps := 10000000) only [List.getElem_toArray, List.getElem_cons_succ, List.getElem_cons_zero, Act.put, List.setIfInBounds_toArray, List.set_cons_zero, List.set_cons_succ]
          refine wpAnyH_take (i := 6) (oi := _) (v := ?_) rfl (by kernel_rfl) (by kernel_rfl) (by kernel_rfl) (fun _ _ _ h => h) (Or.inl ⟨by rfl, ?_⟩) (by assumption) ?_
          rotate_left 1
          · (intro w hSw; (try dsimp only at hSw); go_simp; try with_reducible rfl)
          try simp (maxSteps := 10000000) only [List.getElem_toArray, List.getElem_cons_succ, List.getElem_cons_zero, Act.put, List.setIfInBounds_toArray, List.set_cons_zero, List.set_cons_succ]
          refine wpAnyH_take (i := 7) (oi := _) (v := ?_) rfl (by kernel_rfl) (by kernel_rfl) (by kernel_rfl) (fun _ _ _ h => h) (Or.inl ⟨by rfl, ?_⟩) (by assumption) ?_
          rotate_left 1
          · (intro w hSw; (try dsimp only at hSw); go_simp; try with_reducible rfl)
          try simp (maxSteps := 10000000) only [List.getElem_toArray, List.getElem_cons_succ, List.getElem_cons_zero, Act.put, List.setIfInBounds_toArray, List.set_cons_zero, List.set_cons_succ]
          refine wpAnyH_take (i := 8) (oi := _) (v := ?_) rfl (by kernel_rfl) (by kernel_rfl) (by kernel_rfl) (fun _ _ _ h => h) (Or.inl ⟨by rfl, ?_⟩) (by assumption) ?_
          rotate_left 1
          · (intro w hSw; (try dsimp only at hSw); go_simp; try with_reducible rfl)
          try simp (maxSteps := 10000000) only [List.getElem_toArray, List.getElem_cons_succ, List.getElem_cons_zero, Act.put, List.setIfInBounds_toArray, List.set_cons_zero, List.set_cons_succ]
          refine wpAnyH_take (i := 9) (oi := _) (v := ?_) rfl (by kernel_rfl) (by kernel_rfl) (by kernel_rfl) (fun _ _ _ h => h) (Or.inl ⟨by rfl, ?_⟩) (by assumption) ?_
          rotate_left 1
          · (intro w hSw; (try dsimp only at hSw); go_simp; try with_reducible rfl)
          try simp (maxSteps := 10000000) only [List.getElem_toArray, List.getElem_cons_succ, List.getElem_cons_zero, Act.put, List.setIfInBounds_toArray, List.set_cons_zero, List.set_cons_succ]
          refine wpAnyH_ready (rs := [10]) (by kernel_rfl) (by simp) ?_
          refine AllReadyH.cons rfl (fun K hK => ?_) AllReadyH.nil
          refine step_append_lies _ rfl _ _ 28 rfl wr.heap.size 42 i0 (.int .u32 0) 1 4 Tryd.underlying28 hi hy0 hy1 hy2 rfl (by decide) (.slice none 0 0) 0 [] rfl (World.ownsRow_nil _ _ _ _) a (m + 1) cap ((l.take (m + 1)).map fun (x : Nat) => Value.int .u32 (x : Int)) rfl (by rw [List.length_map, hlk]; omega) (fun j u hj => by
            rw [List.getElem?_map] at hj
            cases hx : (l.take (m + 1))[j]? with
            | none => rw [hx] at hj; simp at hj
            | some x =>
              rw [hx] at hj
              simp only [Option.map_some, Option.some.injEq] at hj
              subst hj
              obtain ⟨a', ha, hc⟩ := hLt.out j x hx
              obtain rfl := Option.some.inj ha
              exact hc) (fun u hu => by obtain ⟨x, _, rfl⟩ := List.mem_map.1 hu; rfl) (by omega) (by unfold maxLen; omega) (by omega) (by exact Nat.le_refl _) _ rfl ?_
          intro g c1 w1 hown hgrow hat hlt
          have hB1 : Below wr.heap.size wr w1 := ((Below.refl _ wr).drew).grown hgrow (Nat.le_refl _) (fun k hk => by simp [Value.ownBlock] at hk)
          obtain ⟨g1, g2, g3, g4⟩ := id (kA.below hB1 (by omega))
          obtain ⟨g5, g6, g7, g8⟩ := id (kB.below hB1 (by omega))
          have kB1 := kB.below hB1 (by omega)
          refine hK.out _ _ ?_ (fun hHeld => ?_)
          · first | assumption | go_keep | (refine ⟨?_, ?_⟩ <;> (rw [World.cell?_setCell_other _ _ _ _ (by simp; try omega), World.cell?_setCell_other _ _ _ _ (by simp; try omega)]; assumption))
          clear hK K
          try simp (maxSteps := 10000000) only [List.getElem_toArray, List.getElem_cons_succ, List.getElem_cons_zero, Act.put, List.setIfInBounds_toArray, List.set_cons_zero, List.set_cons_succ]
          refine wpAnyH_take (i := 11) (oi := _) (v := ?_) rfl (by kernel_rfl) (by kernel_rfl) (by kernel_rfl) (fun _ _ _ h => h) (Or.inl ⟨by rfl, ?_⟩) (by assumption) ?_
          rotate_left 1
          · (intro w hSw; (try dsimp only at hSw); go_simp; try with_reducible rfl)
          try simp (maxSteps := 10000000) only [List.getElem_toArray, List.getElem_cons_succ, List.getElem_cons_zero, Act.put, List.setIfInBounds_toArray, List.set_cons_zero, List.set_cons_succ]
          refine wpAnyH_ready (rs := [12]) (by kernel_rfl) (by simp) ?_
          refine AllReadyH.cons rfl (fun K hK => ?_) AllReadyH.nil
          go_simp
          skip
          try go_simp
          refine hK.out _ _ ?_ (fun hHeld => ?_)
          · first | assumption | go_keep | (refine ⟨?_, ?_⟩ <;> (rw [World.cell?_setCell_other _ _ _ _ (by simp; try omega), World.cell?_setCell_other _ _ _ _ (by simp; try omega)]; assumption))
          clear hK K
          try simp (maxSteps := 10000000) only [List.getElem_toArray, List.getElem_cons_succ, List.getElem_cons_zero, Act.put, List.setIfInBounds_toArray, List.set_cons_zero, List.set_cons_succ]
          refine wpAnyH_done (by kernel_rfl) ?_ _
          go_wp2
          have hF : Fr wr.heap.size (.slice (some ⟨g, 0, none⟩) (m + 1) c1) G w1 := by
            rw [hGe'.out]
            unfold Fr
            rw [hlk]
            simpa using hown
          have hF2 := ((hF.set (p := ⟨w.heap.size + 1, 0, none⟩) (by simp; omega) (.bool true)).set (p := ⟨w.heap.size + 1, 1, none⟩) (by simp; omega) (.slice (some ⟨g, 0, none⟩) (m + 1) c1)).mono (B' := w.heap.size) (by omega)
          have hB2 := below_and hB0 (Nat.le_refl _) hB1
          refine bodyPost_ret (v := .agg #[.bool true, .slice (some ⟨g, 0, none⟩) (m + 1) c1]) (by simp [results, Tryd.results55, go_sem, g5, g6]) rfl ⟨_, rfl, hF2, ?_⟩
          exact (hB2.setCell (p := ⟨w.heap.size + 1, 0, none⟩) (by simp) _).setCell (p := ⟨w.heap.size + 1, 1, none⟩) (by simp) _
    · have hk0 : k ≠ 0 := fun e => hgo (.inl e)
      obtain ⟨m, rfl⟩ : ∃ m, k = m + 1 := ⟨k - 1, by omega⟩
      obtain ⟨x, hx⟩ : ∃ x, l[m]? = some x := ⟨l[m]'(by omega), by simp⟩
      have hx0 : x = 0 := by
        rcases Nat.eq_zero_or_pos x with h1 | h1
        · exact h1
        · exact absurd (.inr ⟨x, by simpa using hx, by omega⟩) hgo
      subst hx0
      obtain ⟨a, rfl, cx⟩ := hLW m 0 hx
      have e1 : (((m + 1 : Nat) : Int) - 1) = (m : Int) := by omega
      have hml : (m : Int) < (l.length : Int) := by omega
      have hpos : (0 : Int) < ((m + 1 : Nat) : Int) := by omega
      have hx' := hid hx
      clear hgo hx hbR' hG'
      go_wp2
      go_roundw
      case rel =>
        refine ⟨m, by go_num, by omega, by first | rfl | trivial, hid fun j y hj hy => ?_⟩
        by_cases hjm : j = m
        · subst hjm; rw [hx'.out] at hy; injection hy with hy; exact hy.symm
        · exact hH.out j y (by omega) hy
      case measure => simp [intOf]
/-- of a value: the same number, as a Norm, in memory of the call's own -/
theorem rnorm_w (v : Value) (Z : Int) (K : Nat) (w : World) (hK : K ≤ 1000000) (h : IsN v Z K w) :
    Calls Tryd.prog 55 #[v] w fun e w' => ∃ sl, e = .returned (.agg #[.bool (decide (Z < 0)), sl]) ∧ Fr w.heap.size sl (glim 4294967296 Z.natAbs) w' ∧ (glim 4294967296 Z.natAbs).length ≤ K ∧ Below w.heap.size w w' := by
  obtain ⟨neg, o, l, c, rfl, hL, hc, hm, hs, hk⟩ := h
  refine (rnorm_raw neg o c l w hm (by omega) hc hL).mono ?_
  rintro e w' ⟨sl, rfl, hF, hB⟩
  have e : Z.natAbs = gval 4294967296 l := by subst hs; unfold sv; cases neg <;> simp
  have e2 : (neg && decide (gval 4294967296 l ≠ 0)) = decide (Z < 0) := by
    subst hs; unfold sv
    cases neg
    · simp
    · by_cases hn : gval 4294967296 l = 0 <;> simp [hn]; omega
  have := gval_len hm
  rw [e2, e]
  exact ⟨sl, rfl, hF, by omega, hB⟩
theorem Fr.isC {B : Nat} {sl : Value} {Z : Int} {K : Nat} {w : World} (h : Fr B sl (glim 4294967296 Z.natAbs) w) (hK : (glim 4294967296 Z.natAbs).length ≤ K) : IsC (.agg #[.bool (decide (Z < 0)), sl]) Z K w := by
  obtain ⟨o, c, rfl, h1, h2, _⟩ := h.parts
  exact ⟨o, c, rfl, h1, h2, hK⟩
end Go.Proofs.YtpdoepjnkgffpaaDoor
namespace Go.Proofs.YtpdoepjnkgffpaaDoor
open Go.ChangeShapes Go.WideShapes Go.ChangeAt Go.ChangeMaps Go.RowKit
set_option linter.unusedSimpArgs false
set_option linter.unusedVariables false
set_option maxRecDepth 2000
theorem ln_le {Z : Int} {k : Nat} (h : Z.natAbs < 4294967296 ^ k) : ln Z ≤ k := (glim_len (by omega) _ _).2 h
theorem mulOk_of {X Y : Int} {a b : Nat} (hx : X.natAbs < 4294967296 ^ a) (hy : Y.natAbs < 4294967296 ^ b) (h : a + b ≤ 128) : mulOk X Y = true := by
  have h1 := ln_le hx
  have h2 := ln_le hy
  have h3 : ln (X * Y) ≤ a + b := ln_le (by
    rw [Int.natAbs_mul, Nat.pow_add]
    exact Nat.mul_lt_mul'' hx hy)
  unfold mulOk; simp; omega
theorem txt_word : txt (4294967296 * 4294967296) = [49, 56, 52, 52, 54, 55, 52, 52, 48, 55, 51, 55, 48, 57, 53, 53, 49, 54, 49, 54] := by
  have h := glim_canon (b := 10) (by omega) (l := [6, 1, 6, 1, 5, 5, 9, 0, 7, 3, 7, 0, 4, 4, 7, 6, 4, 4, 8, 1]) (by intro x hx; revert x; decide) (by intro x hx; simp at hx; omega)
  have e : gval 10 [6, 1, 6, 1, 5, 5, 9, 0, 7, 3, 7, 0, 4, 4, 7, 6, 4, 4, 8, 1] = 18446744073709551616 := by decide
  rw [e] at h
  unfold txt txtN
  rw [if_neg (by decide), show (4294967296 * 4294967296 : Int).natAbs = 18446744073709551616 from rfl, h]
  decide
end Go.Proofs.YtpdoepjnkgffpaaDoor
namespace Go.Proofs.YtpdoepjnkgffpaaDoor
open Go.ChangeShapes Go.WideShapes Go.ChangeAt Go.RowKit
set_option linter.unusedSimpArgs false
set_option linter.unusedVariables false
set_option maxRecDepth 2000
theorem Fr.block {B : Nat} {v : Value} {l : List Nat} {w : World} (h : Fr B v l w) : ∀ q, v.ownBlock = some q → B ≤ q := by
  intro q hq
  rcases h.shape with ⟨rfl, _⟩ | ⟨g, c, rfl⟩
  · simp [Value.ownBlock] at hq
  · simp only [Value.ownBlock, Option.some.injEq] at hq
    have := h.own.1
    omega
theorem gval_take_getD (b : Nat) (l : List Nat) (k : Nat) : gval b (l.take (k + 1)) = gval b (l.take k) + b ^ k * l.getD k 0 := by
  by_cases h : k < l.length
  · have e : l[k]? = some l[k] := by simp [h]
    rw [gval_take_succ b e, List.getD_eq_getElem?_getD, e]; rfl
  · rw [List.take_of_length_le (by omega), List.take_of_length_le (by omega), List.getD_eq_getElem?_getD, List.getElem?_eq_none (by omega)]; simp
theorem Lm.getD {b : Nat} (hb : 0 < b) {l : List Nat} (h : Lm b l) (k : Nat) : l.getD k 0 < b := by
  rw [List.getD_eq_getElem?_getD]
  cases e : l[k]? with
  | none => exact hb
  | some x => exact h.at e
theorem order_w (x y : Int) (w : World) : Calls Tryd.prog 51 #[.int .i64 x, .int .i64 y] w fun e w' => e = .returned (.int .i64 (cmpZ x y)) ∧ w' = w := by
  by_cases h1 : x < y
  · rw [cmpZ_lt h1]
    go_enter Tryd.func51, Tryd.ntmps51
    go_wp2
    go_ret
    exact ⟨rfl, rfl⟩
  · by_cases h2 : y < x
    · rw [cmpZ_gt h2]
      go_enter Tryd.func51, Tryd.ntmps51
      go_wp2
      go_ret
      exact ⟨rfl, rfl⟩
    · have : x = y := by omega
      subst this
      rw [cmpZ_eq]
      go_enter Tryd.func51, Tryd.ntmps51
      go_wp2
      go_ret
      exact ⟨rfl, rfl⟩
set_option maxHeartbeats 1000000 in
theorem mags_w (oa ob : Option Addr) (ca cb : Nat) (m n : Nat) (w : World) (za : (glim 4294967296 m).length ≤ 1000000) (zb : (glim 4294967296 n).length ≤ 1000000) (ha : Lies oa (glim 4294967296 m) w) (hb : Lies ob (glim 4294967296 n) w) :
    Calls Tryd.prog 79 #[.slice oa (glim 4294967296 m).length ca, .slice ob (glim 4294967296 n).length cb] w fun e w' => e = .returned (.int .i64 (cmpZ (m : Int) (n : Int))) ∧ Below w.heap.size w w' := by
  obtain ⟨R, hR⟩ : ∃ R, cmpZ (m : Int) (n : Int) = R := ⟨_, rfl⟩
  rw [hR]
  have hlen' := glim_cmp_len (m := m) (n := n)
  have hat := fun i x y => glim_cmp_at (m := m) (n := n) (i := i) (x := x) (y := y)
  have heq : glim 4294967296 m = glim 4294967296 n → R = 0 := fun e => by
    have := glim_inj (by omega) e
    subst this; rw [← hR, cmpZ_eq]
  rw [hR] at hlen' hat
  have hmX := lm_glim (b := 4294967296) (by omega) m
  have hmY := lm_glim (b := 4294967296) (by omega) n
  generalize glim 4294967296 m = X at *
  generalize glim 4294967296 n = Y at *
  have hlen := hid hlen'
  clear hlen' hR
  by_cases hl : X.length = Y.length
  · have hlz : ((X.length : Int) != (Y.length : Int)) = false := by simp only [bne_eq_false_iff_eq]; omega
    go_enter Tryd.func79, Tryd.ntmps79
    go_wp2
    clear hlz
    go_loopw [5] (fun i wr => ∃ (k : Nat), i = .int .i64 ((k : Int) - 1) ∧ k ≤ X.length ∧ Below w.heap.size w wr ∧ Hid (X.drop k = Y.drop k)) (fun i _ => (intOf i + 1).toNat)
    case atStart => exact ⟨X.length, by go_num, Nat.le_refl _, Below.refl _ _, hid (by rw [List.drop_of_length_le (by omega), List.drop_of_length_le (by omega)])⟩
    case round =>
      obtain ⟨k, rfl, hk, hbw, hH⟩ := hrel
      by_cases h0 : k = 0
      · subst h0
        have hz := heq (by simpa using hH.out)
        go_wp2
        go_ret
        exact ⟨by rw [hz]; rfl, hbw⟩
      · obtain ⟨j, rfl⟩ : ∃ j, k = j + 1 := ⟨k - 1, by omega⟩
        obtain ⟨x, hx⟩ : ∃ x, X[j]? = some x := ⟨X[j]'(by omega), by simp⟩
        obtain ⟨y, hy⟩ : ∃ y, Y[j]? = some y := ⟨Y[j]'(by omega), by simp⟩
        obtain ⟨a, rfl, cx⟩ := (ha.below hbw) j x hx
        obtain ⟨b, rfl, cy⟩ := (hb.below hbw) j y hy
        have e1 : (((j + 1 : Nat) : Int) - 1) = (j : Int) := by omega
        have hjx : (j : Int) < (X.length : Int) := by omega
        have hjy : (j : Int) < (Y.length : Int) := by omega
        rw [e1]
        by_cases hxy : x = y
        · subst hxy
          have hdn : Hid (X.drop j = Y.drop j) := hid (by
            rw [List.drop_eq_getElem_cons (by omega : j < X.length), List.drop_eq_getElem_cons (by omega : j < Y.length), hH.out]
            congr 1
            rw [List.getElem?_eq_getElem (by omega)] at hx hy
            injection hx with hx; injection hy with hy; rw [hx, hy])
          go_wp2
          go_quiet (fail)
          go_wp2
          go_roundw
          case rel => exact ⟨j, by go_num, by omega, below_drewNv hbw _, hdn⟩
          case measure => simp [intOf]
        · have hxz : ((x : Int) != (y : Int)) = true := by simp only [bne_iff_ne, ne_eq]; omega
          have hres := hid (hat j x y hl hH.out hx hy hxy)
          have hxm := hmX.at hx
          have hym := hmY.at hy
          have wx : wrap64 (x : Int) = (x : Int) := by unfold wrap64; omega
          have wy : wrap64 (y : Int) = (y : Int) := by unfold wrap64; omega
          clear hat heq
          go_wp2
          go_quiet (fail)
          have hbw' := below_drewNv hbw nq
          obtain ⟨a', ea, cx'⟩ := (ha.below hbw') j x hx
          obtain ⟨b', eb, cy'⟩ := (hb.below hbw') j y hy
          cases ea; cases eb
          clear cx cy hbw
          generalize wr.drewN nq = wq at *
          go_wp2
          go_quiet ((go_at_call 51; exact Calls.quiet_of_same (order_w _ _ _)))
          go_wp2
          go_ret
          exact ⟨by rw [hres.out]; rfl, below_drewNv hbw' _⟩
  · have hlz : ((X.length : Int) != (Y.length : Int)) = true := by simp only [bne_iff_ne, ne_eq]; omega
    go_enter Tryd.func79, Tryd.ntmps79
    go_wp2_with fail
    refine (order_w _ _ _).mono ?_
    rintro e w1 ⟨rfl, rfl⟩
    go_wp2
    go_ret
    exact ⟨by rw [hlen.out hl]; rfl, Below.refl _ _⟩
theorem Fr.push {B : Nat} {v' : Value} {L : List Nat} {x : Nat} {w : World} (h : w.ownsRow B 42 1 v' (L.length + 1) ((L.map fun (x : Nat) => Value.int .u32 (x : Int)) ++ [.int .u32 (x : Int)])) : Fr B v' (L ++ [x]) w := by
  unfold Fr
  simpa using h
theorem plus_step {b : Nat} {L la lb : List Nat} {cn : Nat} (hH : gval b L + b ^ L.length * cn = gval b (la.take L.length) + gval b (lb.take L.length)) (hb : b = 4294967296) {s : Nat} (hs : la.getD L.length 0 + lb.getD L.length 0 + cn = s) :
    gval b (L ++ [s % 4294967296]) + b ^ (L.length + 1) * (s / 4294967296) = gval b (la.take (L.length + 1)) + gval b (lb.take (L.length + 1)) := by
  subst hb
  rw [gval_append, gval_take_getD, gval_take_getD, pow_step]
  have := sum_step (P := 4294967296 ^ L.length) (S := gval 4294967296 L) (c := cn) (x := la.getD L.length 0) (y := lb.getD L.length 0) (s := s) (by omega) hH
  simpa [gval] using this
end Go.Proofs.YtpdoepjnkgffpaaDoor
namespace Go.Proofs.YtpdoepjnkgffpaaDoor
open Go.ChangeShapes Go.WideShapes Go.ChangeAt Go.RowKit
set_option linter.unusedSimpArgs false
set_option linter.unusedVariables false
set_option maxRecDepth 2000
theorem dif_step2 (x y c : Nat) (hx : x < 4294967296) (hy : y < 4294967296) (hc : c ≤ 1) : ∃ D1 D r q : Nat, IntKind.u64.wrap ((x : Int) - (y : Int)) = (D1 : Int) ∧ IntKind.u64.wrap ((D1 : Int) - (c : Int)) = (D : Int) ∧ IntKind.u32.wrap (D : Int) = (r : Int) ∧ (D : Int) / 9223372036854775808 = (q : Int) ∧ r + (c + y) = x + 4294967296 * q ∧ q ≤ 1 ∧ r < 4294967296 := by
  by_cases h : y ≤ x
  · by_cases h2 : y + c ≤ x
    · exact ⟨x - y, x - y - c, x - y - c, 0, by rw [IntKind.wrap_u64]; omega, by rw [IntKind.wrap_u64]; omega, by rw [IntKind.wrap_u32]; omega, by omega, by omega, by omega, by omega⟩
    · exact ⟨x - y, 18446744073709551615, 4294967295, 1, by rw [IntKind.wrap_u64]; omega, by rw [IntKind.wrap_u64]; omega, by rw [IntKind.wrap_u32]; omega, by omega, by omega, by omega, by omega⟩
  · exact ⟨18446744073709551616 + x - y, 18446744073709551616 + x - y - c, 4294967296 + x - y - c, 1, by rw [IntKind.wrap_u64]; omega, by rw [IntKind.wrap_u64]; omega, by rw [IntKind.wrap_u32]; omega, by omega, by omega, by omega, by omega⟩
theorem minus_step {L la lb : List Nat} {cn x y r q : Nat} (hH : gval 4294967296 L + gval 4294967296 (lb.take L.length) = gval 4294967296 (la.take L.length) + 4294967296 ^ L.length * cn) (hx : la[L.length]? = some x) (hy : lb.getD L.length 0 = y) (hr : r + (cn + y) = x + 4294967296 * q) :
    gval 4294967296 (L ++ [r]) + gval 4294967296 (lb.take (L.length + 1)) = gval 4294967296 (la.take (L.length + 1)) + 4294967296 ^ (L.length + 1) * q := by
  rw [gval_append, gval_take_getD, gval_take_succ _ hx, pow_step, hy]
  have := dif_sum (P := 4294967296 ^ L.length) (b := cn) (t := cn + y) (y := y) rfl hr hH
  simpa [gval] using this
end Go.Proofs.YtpdoepjnkgffpaaDoor
namespace Go.Proofs.YtpdoepjnkgffpaaDoor
open Go.ChangeShapes Go.WideShapes Go.ChangeAt Go.ChangeMaps Go.RowKit
set_option linter.unusedSimpArgs false
set_option linter.unusedVariables false
set_option maxRecDepth 2000
theorem one34 : Tryd.prog.cellsOf 42 = 1 := by kernel_rfl
theorem two34 : Tryd.prog.cellsOf 50 = 2 := by kernel_rfl
theorem open_num {H : Type} {enc : TypeId × Value → H} {base : Nat} {w : World} {v : Value} {d : DataW H} {p : List MemPlace} (o0 : Value.okWide Tryd.prog w Reach.any base 50 v) (h0 : DataW.Trod enc Tryd.prog w 0 (fun _ => true) true 50 v d p) :
    ∃ (neg : Bool) (o : Option Addr) (l : List Nat) (c : Nat), v = .agg #[.bool neg, .slice o l.length c] ∧ Lies o l w ∧ l.length ≤ c ∧ Lm 4294967296 l ∧ l.length ≤ maxLen := by
  obtain ⟨v0, v1, y0, y1, n, rfl, rfl, rfl, t0, t1⟩ := Go.Joins.open_agg2 Tryd.underlying50 (by kernel_rfl) two34 o0 h0
  obtain ⟨b, e0, _⟩ := DataW.trod_bool Tryd.underlying4 t0
  simp only [List.cons.injEq, and_true] at e0
  subst e0
  rcases open_ints Tryd.underlying28 Tryd.underlying42 one34 t1 with ⟨e1, _⟩ | ⟨a, len, cap, zs, e1, _, hlc, hcm, hzl, _, hcell, hwf⟩
  · simp only [List.cons.injEq, and_true] at e1
    subst e1
    exact ⟨b, none, [], 0, rfl, fun j x hx => by simp at hx, by simp, Lm.nil _, by simp [maxLen]⟩
  · simp only [List.cons.injEq, and_true] at e1
    subst e1
    simp only [if_true] at hzl
    have hbd : ∀ x ∈ zs, 0 ≤ x ∧ x < 4294967296 := fun x hx => by
      have := hwf x hx
      simp [Lit.wf, IntKind.min, IntKind.max, IntKind.bits, IntKind.signed] at this
      omega
    have hll : ((zs.map Int.toNat).take len).length = len := by rw [List.length_take, List.length_map]; omega
    refine ⟨b, some a, (zs.map Int.toNat).take len, cap, by rw [hll], fun j x hx => ⟨a, rfl, ?_⟩, by omega, ?_, by omega⟩
    · rw [List.getElem?_take] at hx
      split at hx
      · rename_i hj
        rw [List.getElem?_map] at hx
        cases hz : zs[j]? with
        | none => rw [hz] at hx; simp at hx
        | some z =>
          rw [hz] at hx
          simp only [Option.map_some, Option.some.injEq] at hx
          have hjl : j < zs.length := (List.getElem?_eq_some_iff.1 hz).1
          have hzz := hbd z (List.mem_of_getElem? hz)
          rw [hcell j hjl]
          have : zs.getD j 0 = z := by simp [List.getD, hz]
          rw [this, ← hx]
          congr 2; omega
      · simp at hx
    · intro x hx
      have hx' := List.mem_of_mem_take hx
      obtain ⟨z, hz, rfl⟩ := List.mem_map.1 hx'
      have := hbd z hz
      omega
theorem IsN.of_open {w : World} {neg : Bool} {o : Option Addr} {l : List Nat} {c K : Nat} (h1 : Lies o l w) (h2 : l.length ≤ c) (h3 : Lm 4294967296 l) (h4 : l.length ≤ K) : IsN (.agg #[.bool neg, .slice o l.length c]) (sv neg (gval 4294967296 l)) K w := ⟨neg, o, l, c, rfl, h1, h2, h3, rfl, h4⟩
end Go.Proofs.YtpdoepjnkgffpaaDoor
namespace Go.Proofs.YtpdoepjnkgffpaaDoor
open Go.ChangeShapes Go.WideShapes Go.ChangeAt Go.ChangeMaps Go.RowKit
set_option linter.unusedSimpArgs false
set_option linter.unusedVariables false
set_option maxRecDepth 2000
theorem wpAnyH_inv {σ : Type} {P : Program} {md : Region.Mode} {ops : Array Oper} {Q : Exit → Act → World → Prop} {S : World → Prop} {m : Nat} (L : σ → Array Bool) (A : σ → Act) (R : σ → World → Prop) (n : σ → Nat)
    (hne : ∀ s w, R s w → n s ≠ 0 → Region.ready md ops (L s) ≠ [])
    (hstep : ∀ s w, R s w → n s ≠ 0 → ∀ i ∈ Region.ready md ops (L s), wpOp P ops Q i (fun a' w' => ∃ s', n s = n s' + 1 ∧ L s' = (L s).setIfInBounds i true ∧ a' = A s' ∧ R s' w' ∧ S w') (A s) w)
    (hdone : ∀ s w, R s w → n s = 0 → wpAnyH P md ops Q S m (L s) (A s) w) :
    ∀ (k : Nat) (s : σ) (w : World) (listed : Array Bool) (a : Act), n s = k → listed = L s → a = A s → R s w → wpAnyH P md ops Q S (m + k) listed a w := by
  intro k
  induction k with
  | zero =>
    intro s w listed a hn hl ha hR
    subst hl ha
    exact hdone s w hR hn
  | succ k ih =>
    intro s w listed a hn hl ha hR
    subst hl ha
    refine ⟨fun h0 => absurd h0 (hne s w hR (by omega)), fun i hi => ?_⟩
    refine wpOp_mono (fun a' w' h => ?_) (hstep s w hR (by omega) i hi)
    obtain ⟨s', h1, h2, h3, h4, h5⟩ := h
    exact ⟨h5, ih s' w' _ _ (by omega) h2.symm h3 h4⟩
theorem below_and' {N : Nat} {w w' w'' : World} (h : Below N w w') (hN : N ≤ w'.heap.size) (h' : Below w'.heap.size w' w'') : Below N w w'' := h.trans (below_le h' hN)
/-- a variable of two cells, new, at a place of the call's own -/
def NewBox (N : Nat) (x u v : Value) (w : World) : Prop := ∃ g, x = .pointer (some ⟨g, 0, none⟩) ∧ N ≤ g ∧ g < w.heap.size ∧ Box g u v w
theorem NewBox.below {N : Nat} {x u v : Value} {w w' : World} (h : NewBox N x u v w) (hb : Below w.heap.size w w') : NewBox N x u v w' := by
  obtain ⟨g, rfl, h1, h2, h3⟩ := h
  exact ⟨g, rfl, h1, Nat.lt_of_lt_of_le h2 hb.size, h3.below hb h2⟩
theorem NewBox.new {N : Nat} (u v : Value) (w : World) (t : TypeId) (hN : N ≤ w.heap.size) : NewBox N (.pointer (some ⟨w.heap.size, 0, none⟩)) u v (w.alloc (.cells #[u, v] t)) :=
  ⟨w.heap.size, rfl, hN, by simp, Box.new w u v t⟩
theorem NewBox.ne {N : Nat} {x u v : Value} {w : World} (h : NewBox N x u v w) : x ≠ .pointer (some ⟨w.heap.size, 0, none⟩) := by
  obtain ⟨g, rfl, _, h2, _⟩ := h
  intro e
  simp only [Value.pointer.injEq, Option.some.injEq, Addr.mk.injEq, and_true] at e
  omega
/-- three calls in a row beside three variables that are made at any time: what has come up -/
structure St3 where
  l1 : Bool
  l3 : Bool
  l5 : Bool
  l6 : Bool
  l7 : Bool
  l8 : Bool
  x1 : Value
  x3 : Value
  x5 : Value
  x6 : Value
  x7 : Value
  x8 : Value
def St3.L (s : St3) : Array Bool := #[true, s.l1, true, s.l3, true, s.l5, s.l6, s.l7, s.l8, false, false, false]
def St3.n (s : St3) : Nat := (!s.l1).toNat + (!s.l3).toNat + (!s.l5).toNat + (!s.l6).toNat + (!s.l7).toNat + (!s.l8).toNat
structure R3 (N : Nat) (W : World) (va vb vc z0 z1 : Value) (s : St3) (w : World) : Prop where
  bel : Below N W w
  size : N ≤ w.heap.size
  o3 : s.l3 = true → s.l1 = true
  o5 : s.l5 = true → s.l3 = true
  h1 : s.l1 = true → s.x1 = va
  h3 : s.l3 = true → s.x3 = vb
  h5 : s.l5 = true → s.x5 = vc
  h6 : s.l6 = true → NewBox N s.x6 z0 z1 w
  h7 : s.l7 = true → NewBox N s.x7 z0 z1 w
  h8 : s.l8 = true → NewBox N s.x8 z0 z1 w
  h67 : s.l6 = true → s.l7 = true → s.x6 ≠ s.x7
  h68 : s.l6 = true → s.l8 = true → s.x6 ≠ s.x8
  h78 : s.l7 = true → s.l8 = true → s.x7 ≠ s.x8
theorem R3.on {N : Nat} {W : World} {va vb vc z0 z1 : Value} {s : St3} {w w' : World} (h : R3 N W va vb vc z0 z1 s w) (hb : Below w.heap.size w w') : R3 N W va vb vc z0 z1 s w' :=
  ⟨below_and' h.bel h.size hb, Nat.le_trans h.size hb.size, h.o3, h.o5, h.h1, h.h3, h.h5, fun e => (h.h6 e).below hb, fun e => (h.h7 e).below hb, fun e => (h.h8 e).below hb, h.h67, h.h68, h.h78⟩
theorem R3.c1 {N : Nat} {W : World} {va vb vc z0 z1 : Value} {s : St3} {w w' : World} (h : R3 N W va vb vc z0 z1 s w) (hb : Below w.heap.size w w') : R3 N W va vb vc z0 z1 { s with l1 := true, x1 := va } w' := by
  have k := h.on hb
  exact ⟨k.bel, k.size, fun _ => rfl, k.o5, fun _ => rfl, k.h3, k.h5, k.h6, k.h7, k.h8, k.h67, k.h68, k.h78⟩
theorem R3.c3 {N : Nat} {W : World} {va vb vc z0 z1 : Value} {s : St3} {w w' : World} (h : R3 N W va vb vc z0 z1 s w) (he : s.l1 = true) (hb : Below w.heap.size w w') : R3 N W va vb vc z0 z1 { s with l3 := true, x3 := vb } w' := by
  have k := h.on hb
  exact ⟨k.bel, k.size, fun _ => he, fun _ => rfl, k.h1, fun _ => rfl, k.h5, k.h6, k.h7, k.h8, k.h67, k.h68, k.h78⟩
theorem R3.c5 {N : Nat} {W : World} {va vb vc z0 z1 : Value} {s : St3} {w w' : World} (h : R3 N W va vb vc z0 z1 s w) (he : s.l3 = true) (hb : Below w.heap.size w w') : R3 N W va vb vc z0 z1 { s with l5 := true, x5 := vc } w' := by
  have k := h.on hb
  exact ⟨k.bel, k.size, k.o3, fun _ => he, k.h1, k.h3, fun _ => rfl, k.h6, k.h7, k.h8, k.h67, k.h68, k.h78⟩
theorem R3.n6 {N : Nat} {W : World} {va vb vc z0 z1 : Value} {s : St3} {w : World} (t : TypeId) (h : R3 N W va vb vc z0 z1 s w) : R3 N W va vb vc z0 z1 { s with l6 := true, x6 := .pointer (some ⟨w.heap.size, 0, none⟩) } (w.alloc (.cells #[z0, z1] t)) := by
  have k := h.on ((Below.refl w.heap.size w).alloc (Nat.le_refl _) (.cells #[z0, z1] t))
  exact ⟨k.bel, k.size, k.o3, k.o5, k.h1, k.h3, k.h5, fun _ => NewBox.new z0 z1 w t h.size, k.h7, k.h8, fun _ e => (h.h7 e).ne.symm, fun _ e => (h.h8 e).ne.symm, k.h78⟩
theorem R3.n7 {N : Nat} {W : World} {va vb vc z0 z1 : Value} {s : St3} {w : World} (t : TypeId) (h : R3 N W va vb vc z0 z1 s w) : R3 N W va vb vc z0 z1 { s with l7 := true, x7 := .pointer (some ⟨w.heap.size, 0, none⟩) } (w.alloc (.cells #[z0, z1] t)) := by
  have k := h.on ((Below.refl w.heap.size w).alloc (Nat.le_refl _) (.cells #[z0, z1] t))
  exact ⟨k.bel, k.size, k.o3, k.o5, k.h1, k.h3, k.h5, k.h6, fun _ => NewBox.new z0 z1 w t h.size, k.h8, fun e _ => (h.h6 e).ne, k.h68, fun _ e => (h.h8 e).ne.symm⟩
theorem R3.n8 {N : Nat} {W : World} {va vb vc z0 z1 : Value} {s : St3} {w : World} (t : TypeId) (h : R3 N W va vb vc z0 z1 s w) : R3 N W va vb vc z0 z1 { s with l8 := true, x8 := .pointer (some ⟨w.heap.size, 0, none⟩) } (w.alloc (.cells #[z0, z1] t)) := by
  have k := h.on ((Below.refl w.heap.size w).alloc (Nat.le_refl _) (.cells #[z0, z1] t))
  exact ⟨k.bel, k.size, k.o3, k.o5, k.h1, k.h3, k.h5, k.h6, k.h7, fun _ => NewBox.new z0 z1 w t h.size, k.h67, fun e _ => (h.h6 e).ne, fun e _ => (h.h7 e).ne⟩
def bAll (f : Bool → Bool) : Bool := f false && f true
theorem bAll_spec {f : Bool → Bool} (h : bAll f = true) (b : Bool) : f b = true := by
  unfold bAll at h
  rw [Bool.and_eq_true] at h
  cases b
  · exact h.1
  · exact h.2
theorem wpAnyH_inv3 {P : Program} {md : Region.Mode} {ops : Array Oper} {Q : Exit → Act → World → Prop} {S : World → Prop} (A : St3 → Act) (R : St3 → World → Prop)
    (hmem0 : (bAll fun l1 => bAll fun l3 => bAll fun l5 => bAll fun l6 => bAll fun l7 => bAll fun l8 => (l1 && l3 && l5 && l6 && l7 && l8) || (l3 && !l1) || (l5 && !l3) || (!(Region.ready md ops #[true, l1, true, l3, true, l5, l6, l7, l8, false, false, false]).isEmpty && (Region.ready md ops #[true, l1, true, l3, true, l5, l6, l7, l8, false, false, false]).all fun i => (i == 1 && !l1) || (i == 3 && !l3 && l1) || (i == 5 && !l5 && l3) || (i == 6 && !l6) || (i == 7 && !l7) || (i == 8 && !l8))) = true)
    (hord : ∀ s w, R s w → (s.l3 = true → s.l1 = true) ∧ (s.l5 = true → s.l3 = true))
    (h1 : ∀ s w, R s w → wpOp P ops Q 1 (fun a' w' => ∃ x, a' = A { s with l1 := true, x1 := x } ∧ R { s with l1 := true, x1 := x } w' ∧ S w') (A s) w)
    (h3 : ∀ s w, R s w → s.l1 = true → wpOp P ops Q 3 (fun a' w' => ∃ x, a' = A { s with l3 := true, x3 := x } ∧ R { s with l3 := true, x3 := x } w' ∧ S w') (A s) w)
    (h5 : ∀ s w, R s w → s.l3 = true → wpOp P ops Q 5 (fun a' w' => ∃ x, a' = A { s with l5 := true, x5 := x } ∧ R { s with l5 := true, x5 := x } w' ∧ S w') (A s) w)
    (h6 : ∀ s w, R s w → wpOp P ops Q 6 (fun a' w' => ∃ x, a' = A { s with l6 := true, x6 := x } ∧ R { s with l6 := true, x6 := x } w' ∧ S w') (A s) w)
    (h7 : ∀ s w, R s w → wpOp P ops Q 7 (fun a' w' => ∃ x, a' = A { s with l7 := true, x7 := x } ∧ R { s with l7 := true, x7 := x } w' ∧ S w') (A s) w)
    (h8 : ∀ s w, R s w → wpOp P ops Q 8 (fun a' w' => ∃ x, a' = A { s with l8 := true, x8 := x } ∧ R { s with l8 := true, x8 := x } w' ∧ S w') (A s) w)
    (hdone : ∀ (x1 x3 x5 x6 x7 x8 : Value) w, R ⟨true, true, true, true, true, true, x1, x3, x5, x6, x7, x8⟩ w → wpAnyH P md ops Q S 3 #[true, true, true, true, true, true, true, true, true, false, false, false] (A ⟨true, true, true, true, true, true, x1, x3, x5, x6, x7, x8⟩) w)
    (w : World) (a : Act) (x1 x3 x5 x6 x7 x8 : Value) (ha : a = A ⟨false, false, false, false, false, false, x1, x3, x5, x6, x7, x8⟩) (hR : R ⟨false, false, false, false, false, false, x1, x3, x5, x6, x7, x8⟩ w) :
    wpAnyH P md ops Q S 9 #[true, false, true, false, true, false, false, false, false, false, false, false] a w := by
  have hmem : ∀ l1 l3 l5 l6 l7 l8 : Bool, (l1 && l3 && l5 && l6 && l7 && l8) = false → (l3 = true → l1 = true) → (l5 = true → l3 = true) → Region.ready md ops #[true, l1, true, l3, true, l5, l6, l7, l8, false, false, false] ≠ [] ∧ ∀ i ∈ Region.ready md ops #[true, l1, true, l3, true, l5, l6, l7, l8, false, false, false], (i = 1 ∧ l1 = false) ∨ (i = 3 ∧ l3 = false ∧ l1 = true) ∨ (i = 5 ∧ l5 = false ∧ l3 = true) ∨ (i = 6 ∧ l6 = false) ∨ (i = 7 ∧ l7 = false) ∨ (i = 8 ∧ l8 = false) := by
    intro l1 l3 l5 l6 l7 l8 he e1 e2
    have h := bAll_spec (bAll_spec (bAll_spec (bAll_spec (bAll_spec (bAll_spec hmem0 l1) l3) l5) l6) l7) l8
    have e3 : (l3 && !l1) = false := by cases l3 <;> simp_all
    have e4 : (l5 && !l3) = false := by cases l5 <;> simp_all
    rw [he, e3, e4, Bool.false_or, Bool.false_or, Bool.false_or, Bool.and_eq_true] at h
    refine ⟨fun e => ?_, fun i hi => ?_⟩
    · rw [e] at h; simp at h
    · have h2 := List.all_eq_true.1 h.2 i hi
      simpa [or_assoc, and_assoc] using h2
  refine wpAnyH_inv (m := 3) St3.L A R St3.n ?_ ?_ ?_ 6 ⟨false, false, false, false, false, false, x1, x3, x5, x6, x7, x8⟩ w _ a rfl rfl ha hR
  · rintro ⟨l1, l3, l5, l6, l7, l8, y1, y3, y5, y6, y7, y8⟩ w hR hn
    refine (hmem l1 l3 l5 l6 l7 l8 ?_ (hord _ _ hR).1 (hord _ _ hR).2).1
    clear hR
    revert hn
    cases l1 <;> cases l3 <;> cases l5 <;> cases l6 <;> cases l7 <;> cases l8 <;> simp [St3.n]
  · intro s w hR hn i hi
    have hm := (hmem s.l1 s.l3 s.l5 s.l6 s.l7 s.l8 (by
      clear hR hi
      revert hn
      rcases s with ⟨l1, l3, l5, l6, l7, l8, y1, y3, y5, y6, y7, y8⟩
      cases l1 <;> cases l3 <;> cases l5 <;> cases l6 <;> cases l7 <;> cases l8 <;> simp [St3.n]) (hord _ _ hR).1 (hord _ _ hR).2).2 i hi
    rcases hm with ⟨rfl, e⟩ | ⟨rfl, e, ee⟩ | ⟨rfl, e, ee⟩ | ⟨rfl, e⟩ | ⟨rfl, e⟩ | ⟨rfl, e⟩
    · refine wpOp_mono (fun a' w' h => ?_) (h1 s w hR)
      obtain ⟨x, k1, k2, k3⟩ := h
      exact ⟨_, by simp [St3.n, e]; omega, rfl, k1, k2, k3⟩
    · refine wpOp_mono (fun a' w' h => ?_) (h3 s w hR ee)
      obtain ⟨x, k1, k2, k3⟩ := h
      exact ⟨_, by simp [St3.n, e]; omega, rfl, k1, k2, k3⟩
    · refine wpOp_mono (fun a' w' h => ?_) (h5 s w hR ee)
      obtain ⟨x, k1, k2, k3⟩ := h
      exact ⟨_, by simp [St3.n, e]; omega, rfl, k1, k2, k3⟩
    · refine wpOp_mono (fun a' w' h => ?_) (h6 s w hR)
      obtain ⟨x, k1, k2, k3⟩ := h
      exact ⟨_, by simp [St3.n, e]; omega, rfl, k1, k2, k3⟩
    · refine wpOp_mono (fun a' w' h => ?_) (h7 s w hR)
      obtain ⟨x, k1, k2, k3⟩ := h
      exact ⟨_, by simp [St3.n, e]; omega, rfl, k1, k2, k3⟩
    · refine wpOp_mono (fun a' w' h => ?_) (h8 s w hR)
      obtain ⟨x, k1, k2, k3⟩ := h
      exact ⟨_, by simp [St3.n, e], rfl, k1, k2, k3⟩
  · rintro ⟨l1, l3, l5, l6, l7, l8, y1, y3, y5, y6, y7, y8⟩ w hR hn
    have : l1 = true ∧ l3 = true ∧ l5 = true ∧ l6 = true ∧ l7 = true ∧ l8 = true := by
      revert hn
      cases l1 <;> cases l3 <;> cases l5 <;> cases l6 <;> cases l7 <;> cases l8 <;> simp [St3.n]
    obtain ⟨rfl, rfl, rfl, rfl, rfl, rfl⟩ := this
    exact hdone _ _ _ _ _ _ w hR
theorem wpAnyH_name {P : Program} {md : Region.Mode} {ops : Array Oper} {Q : Exit → Act → World → Prop} {S : World → Prop} {m : Nat} {listed : Array Bool} {a : Act} {w : World} (h : ∀ a0, a0 = a → wpAnyH P md ops Q S m listed a0 w) : wpAnyH P md ops Q S m listed a w := h a rfl
theorem wpAnyH_at {P : Program} {md : Region.Mode} {ops : Array Oper} {Q : Exit → Act → World → Prop} {S : World → Prop} {m m' : Nat} {listed listed' : Array Bool} {a : Act} {w : World} (hm : m = m') (hl : listed = listed') (h : wpAnyH P md ops Q S m' listed' a w) : wpAnyH P md ops Q S m listed a w := by
  subst hm hl; exact h
theorem IsC.shape {v : Value} {Z : Int} {K : Nat} {w : World} (h : IsC v Z K w) : ∃ b o n c, v = .agg #[.bool b, .slice o n c] := by
  obtain ⟨o, c, rfl, _⟩ := h
  exact ⟨_, _, _, _, rfl⟩
theorem IsC.parts {b : Bool} {o : Option Addr} {n c : Nat} {Z : Int} {K : Nat} {w : World} (h : IsC (.agg #[.bool b, .slice o n c]) Z K w) : b = decide (Z < 0) ∧ n = (glim 4294967296 Z.natAbs).length := by
  obtain ⟨o', c', e, _⟩ := h
  simp only [Value.agg.injEq, Array.mk.injEq, List.cons.injEq, Value.bool.injEq, Value.slice.injEq, and_true] at e
  exact ⟨e.1, e.2.2.1⟩
theorem newbox (w : World) (u v : Value) (t : TypeId) : Box w.heap.size u v (w.alloc (.cells #[u, v] t)) ∧ Below w.heap.size w (w.alloc (.cells #[u, v] t)) ∧ (w.alloc (.cells #[u, v] t)).heap.size = w.heap.size + 1 :=
  ⟨Box.new w u v t, (Below.refl _ _).alloc (Nat.le_refl _) _, by simp⟩
theorem Box.lt {g : Nat} {u v : Value} {w : World} (h : Box g u v w) : g < w.heap.size := World.block_lt_of_cell? _ _ h.1
theorem cmpZ_swap (x y : Int) : -cmpZ y x = cmpZ x y := by
  simp only [cmpZ]
  split <;> split <;> (try split) <;> omega
theorem natAbs_lt_of {b : Bool} {l : List Nat} {k : Nat} (hm : Lm 4294967296 l) (hl : l.length ≤ k) : (sv b (gval 4294967296 l)).natAbs < 4294967296 ^ k := by
  have h1 := gval_lt hm
  have h2 : (4294967296 : Nat) ^ l.length ≤ 4294967296 ^ k := Nat.pow_le_pow_right (by omega) hl
  have h3 : (sv b (gval 4294967296 l)).natAbs = gval 4294967296 l := by unfold sv; cases b <;> simp
  omega
theorem natAbs_add_lt {Y Z : Int} (hY : Y.natAbs < 4294967296 ^ 40) (hZ : Z.natAbs < 4294967296 ^ 40) : (Y + Z).natAbs < 4294967296 ^ 41 := by
  have h1 : (4294967296 : Nat) ^ 41 = 4294967296 ^ 40 * 4294967296 := Nat.pow_succ _ _
  rw [h1]
  generalize (4294967296 : Nat) ^ 40 = P at *
  have h2 := Int.natAbs_add_le Y Z
  omega
theorem cmpZ_bd (x y : Int) : -1 ≤ cmpZ x y ∧ cmpZ x y ≤ 1 := by
  simp only [cmpZ]
  split <;> (try split) <;> omega
theorem IsN.abs {b : Bool} {sl : Value} {Z : Int} {K : Nat} {w : World} (h : IsN (.agg #[.bool b, sl]) Z K w) : IsN (.agg #[.bool false, sl]) (Z.natAbs : Int) K w := by
  obtain ⟨neg, o, l, c, e, hL, hc, hm, hs, hk⟩ := h
  simp only [Value.agg.injEq, Array.mk.injEq, List.cons.injEq, Value.bool.injEq, and_true] at e
  obtain ⟨rfl, rfl⟩ := e
  refine ⟨false, o, l, c, rfl, hL, hc, hm, ?_, hk⟩
  subst hs
  unfold sv
  cases b <;> simp
theorem field25 (b : Bool) (o : Option Addr) (n c : Nat) (w : World) : (Instr.field 72 (.agg #[.bool b, .slice o n c]) 0).run Tryd.prog w = .ok (.bool b) w := by
  have ht := run_underlying (P := Tryd.prog) Tryd.underlying72
  have ht2 := run_underlying (P := Tryd.prog) Tryd.underlying4
  simp [Instr.field, ht, asAgg, part, isAgg, ht2, go_sem]
theorem tdiv_lt {X Y : Int} {k : Nat} (h : X.natAbs < 4294967296 ^ k) : (X.tdiv Y).natAbs < 4294967296 ^ k := Nat.lt_of_le_of_lt (Int.natAbs_tdiv_le_natAbs X Y) h
theorem div_back (X Y : Int) : X.tdiv Y * Y + X.tmod Y = X := by
  rw [Int.mul_comm]; exact Int.mul_tdiv_add_tmod X Y
theorem mod_small {X Y : Int} (h : Y ≠ 0) : cmpZ ((X.tmod Y).natAbs : Int) (Y.natAbs : Int) = -1 := by
  apply cmpZ_lt
  rw [Int.natAbs_tmod]
  have := Nat.mod_lt X.natAbs (show 0 < Y.natAbs by omega)
  omega
theorem mod_sign {X Y : Int} (h : X.tmod Y ≠ 0) : decide (X.tmod Y < 0) = decide (X < 0) := by
  by_cases hx : X < 0
  · have h1 : (-X).tmod Y = -(X.tmod Y) := Int.neg_tmod X Y
    have h2 := Int.tmod_nonneg (a := -X) Y (by omega)
    simp only [hx, decide_true, decide_eq_true_eq]
    omega
  · have h2 := Int.tmod_nonneg (a := X) Y (by omega)
    simp only [hx, decide_false, decide_eq_false_iff_not]
    omega
theorem glim_len0 {Z : Int} : ((glim 4294967296 Z.natAbs).length : Int) = 0 ↔ Z = 0 := by
  constructor
  · intro h
    by_cases hz : Z = 0
    · exact hz
    · have := List.length_pos_iff.2 (glim_ne (b := 4294967296) (n := Z.natAbs) (by omega) (by omega))
      omega
  · intro h; subst h; simp [glim_zero]
theorem field34 (b : Bool) (o : Option Addr) (n c : Nat) (w : World) : (Instr.field 50 (.agg #[.bool b, .slice o n c]) 1).run Tryd.prog w = .ok (.slice o n c) w := by
  have ht := run_underlying (P := Tryd.prog) Tryd.underlying50
  have ht2 := run_underlying (P := Tryd.prog) Tryd.underlying28
  simp [Instr.field, ht, asAgg, part, isAgg, ht2, go_sem]
end Go.Proofs.YtpdoepjnkgffpaaDoor
namespace Go.Proofs.YtpdoepjnkgffpaaDoor
open Go.ChangeShapes Go.WideShapes Go.ChangeAt Go.RowKit
set_option linter.unusedSimpArgs false
set_option linter.unusedVariables false
set_option maxRecDepth 2000
end Go.Proofs.YtpdoepjnkgffpaaDoor
namespace Go.Proofs.YtpdoepjnkgffpaaDoor
open Go.ChangeShapes Go.WideShapes Go.ChangeAt Go.RowKit
set_option linter.unusedSimpArgs false
set_option linter.unusedVariables false
set_option maxRecDepth 2000
theorem Box.set1c {g k : Nat} {u v x : Value} {w : World} (h : Box g u v w) (hne : g ≠ k) : Box g u v (w.setCell ⟨k, 0, none⟩ x) :=
  ⟨(World.cell?_setCell_other _ _ _ _ (by first | (simp; done) | (simp; omega))).trans h.1, (World.cell?_setCell_other _ _ _ _ (by first | (simp; done) | (simp; omega))).trans h.2.1, (frozen_set _ _ rfl _ _).trans h.2.2.1, (frozen_set _ _ rfl _ _).trans h.2.2.2⟩
theorem wrap_cmp (x y : Int) : wrap64 (-cmpZ x y) = cmpZ y x := by
  rw [cmpZ_swap]
  unfold cmpZ wrap64
  split <;> (try split) <;> omega
set_option maxHeartbeats 1000000 in
theorem rcmp_w (va vb : Value) (X Y : Int) (kk : Nat) (w : World) (hK : kk ≤ 1000000) (ha : IsN va X kk w) (hb : IsN vb Y kk w) :
    Calls Tryd.prog 52 #[va, vb] w fun e w' => e = .returned (.int .i64 (cmpZ X Y)) ∧ Below w.heap.size w w' := by
  have hA : ∀ w', Below w.heap.size w w' → IsN va X kk w' := fun w' hw => ha.below hw
  have hB : ∀ w', Below w.heap.size w w' → IsN vb Y kk w' := fun w' hw => hb.below hw
  obtain ⟨na, oa, la, ca, rfl, hLa, hca, hma, hsa, hka⟩ := ha
  obtain ⟨nb, ob, lb, cb, rfl, hLb, hcb, hmb, hsb, hkb⟩ := hb
  clear hsa hsb hma hmb hLa hLb hca hcb hka hkb
  obtain ⟨kA, kB, hB0, hz0⟩ := boxes2 w (.bool na) (.slice oa la.length ca) (.bool nb) (.slice ob lb.length cb) 50 50
  obtain ⟨R, hR⟩ : ∃ R, cmpZ X Y = R := ⟨_, rfl⟩
  rw [hR]
  have hRH := hid hR
  clear hR
  go_enter Tryd.func52, Tryd.ntmps52
  go_wp2
  generalize ((w.alloc (.cells #[.bool na, .slice oa la.length ca] 50)).alloc (.cells #[.bool nb, .slice ob lb.length cb] 50)) = W0 at *
  obtain ⟨f1, f2, f3, f4⟩ := id kA
  obtain ⟨f5, f6, f7, f8⟩ := id kB
  go_cut [] from 6 to 9 (fun wx => Two X Y kk w wx ∧ After w W0 wx)
  case first =>
    go_region_with (first
        | (go_at_call_of 55 oa
           refine (rnorm_w _ X kk _ (by omega) (hA _ hB0.drew)).mono ?_
           rintro e w1 ⟨s1, rfl, hF1, q1, b1'⟩
           have b1 : Below W0.heap.size W0 w1 := ((Below.refl _ W0).drew).trans b1'
           clear b1'
           obtain ⟨o1, c1, rfl, L1, z1, _⟩ := hF1.parts
           have hB1 : Below w.heap.size w w1 := below_and hB0 (Nat.le_refl _) b1
           have hz1 := b1.size
           obtain ⟨p1, p2, p3, p4⟩ := kA.below b1 (by omega)
           obtain ⟨p5, p6, p7, p8⟩ := kB.below b1 (by omega))
        | (go_at_call_of 55 ob
           refine (rnorm_w _ Y kk _ (by omega) (hB _ hB1)).mono ?_
           rintro e w2 ⟨s2, rfl, hF2, q2, b2'⟩
           have b2 : Below W0.heap.size W0 w2 := below_and b1 (Nat.le_refl _) b2'
           have L1' := L1.below b2'
           clear b2' p1 p2 p3 p4 p5 p6 p7 p8
           obtain ⟨o2, c2, rfl, L2, z2, _⟩ := hF2.parts
           have kA2 := kA.below b2 (by omega)
           have kB2 := kB.below b2 (by omega)
           obtain ⟨p1, p2, p3, p4⟩ := id kA2
           obtain ⟨p5, p6, p7, p8⟩ := id kB2))
    all_goals (go_wp2_with fail; go_meet)
    all_goals (have hAf := after_put (a0 := .bool (decide (X < 0))) (a1 := .slice o1 (glim 4294967296 X.natAbs).length c1) (b0 := .bool (decide (Y < 0))) (b1 := .slice o2 (glim 4294967296 Y.natAbs).length c2) hB0 (by omega) b2; exact ⟨⟨o1, c1, o2, c2, (boxes_put kA kB (by omega) b2).1, (boxes_put kA kB (by omega) b2).2, (L1'.box kA2 _ _).box (kB2.far (by omega)) _ _, (L2.box kA2 _ _).box (kB2.far (by omega)) _ _, z1, z2, q1, q2⟩, hAf⟩)
  case rest =>
    obtain ⟨⟨o1, c1, o2, c2, kA', kB', L1, L2, z1, z2, q1, q2⟩, hAf⟩ := hcut
    have hsz := hAf.2.1
    have hBx := hAf.2.2
    clear hAf kA kB f1 f2 f3 f4 f5 f6 f7 f8 hB0 hA hB
    have bA := kA'.lt
    obtain ⟨f1, f2, f3, f4⟩ := id kA'
    obtain ⟨f5, f6, f7, f8⟩ := id kB'
    by_cases hx : X < 0
    · have hdx : decide (X < 0) = true := by simp [hx]
      rw [hdx] at f1 kA'
      by_cases hy : Y < 0
      · have hdy : decide (Y < 0) = true := by simp [hy]
        rw [hdy] at f5
        have hres : R = cmpZ (Y.natAbs : Int) (X.natAbs : Int) := by
          rw [← hRH.out, ← cmpZ_neg]; congr 1 <;> omega
        have Hres := hid hres
        clear hx hy hdx hdy hRH hres
        go_wp2_with fail
        refine (mags_w o1 o2 c1 c2 _ _ _ (by omega) (by omega) L1 L2).mono ?_
        rintro e wd ⟨rfl, bd⟩
        obtain ⟨g1, g2, g3, g4⟩ := id (kA'.below bd bA)
        go_wp2
        go_ret
        exact ⟨by rw [Hres.out]; exact congrArg (fun z => Ending.returned (Value.int .i64 z)) (wrap_cmp _ _), below_and hBx (Nat.le_refl _) bd⟩
      · have hdy : decide (Y < 0) = false := by simp [hy]
        rw [hdy] at f5
        have hres : R = -1 := by rw [← hRH.out, cmpZ_lt (by omega)]
        clear hx hy hdx hdy hRH
        go_wp2
        go_ret
        exact ⟨by rw [hres]; rfl, hBx⟩
    · have hdx : decide (X < 0) = false := by simp [hx]
      rw [hdx] at f1 kA'
      by_cases hy : Y < 0
      · have hdy : decide (Y < 0) = true := by simp [hy]
        rw [hdy] at f5
        have hres : R = 1 := by rw [← hRH.out, cmpZ_gt (by omega)]
        clear hx hy hdx hdy hRH
        go_wp2
        go_ret
        exact ⟨by rw [hres]; rfl, hBx⟩
      · have hdy : decide (Y < 0) = false := by simp [hy]
        rw [hdy] at f5
        have hres : R = cmpZ (X.natAbs : Int) (Y.natAbs : Int) := by
          rw [← hRH.out]; congr 1 <;> omega
        have Hres := hid hres
        clear hx hy hdx hdy hRH hres
        go_wp2_with fail
        refine (mags_w o1 o2 c1 c2 _ _ _ (by omega) (by omega) L1 L2).mono ?_
        rintro e wd ⟨rfl, bd⟩
        obtain ⟨g1, g2, g3, g4⟩ := id (kA'.below bd bA)
        go_wp2
        go_ret
        exact ⟨by rw [Hres.out]; rfl, below_and hBx (Nat.le_refl _) bd⟩
end Go.Proofs.YtpdoepjnkgffpaaDoor
