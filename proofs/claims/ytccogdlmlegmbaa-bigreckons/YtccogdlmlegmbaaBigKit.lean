/- view of package big. -/
import Derived.Test.YtccogdlmlegmbaaRows
import Derived.Test.YtccogdlmlegmbaaBigMath
import Derived.Below
import Derived.Deep.OwnRows
import Derived.Deep.QuietTactic
import Derived.BigQuiet
namespace Go.Proofs.Ytccogdlmlegmbaa
open Go.ChangeShapes Go.WideShapes Go.ChangeAt Go.RowKit
set_option linter.unusedSimpArgs false
set_option linter.unusedVariables false
/-- a fact that the walk must not rewrite with -/
def Hid (p : Prop) : Prop := p
theorem hid {p : Prop} (h : p) : Hid p := h
theorem Hid.out {p : Prop} (h : Hid p) : p := h
/-- limbs in memory -/
def Lies (ao : Option Addr) (l : List Nat) (w : World) : Prop := ∀ (j x : Nat), l[j]? = some x → ∃ a, ao = some a ∧ w.cell? (a.add j) = some (.int .u32 (x : Int))
theorem Lies.below {ao : Option Addr} {l : List Nat} {w w' : World} (h : Lies ao l w) (hb : Below w.heap.size w w') : Lies ao l w' := fun j x hx => by
  obtain ⟨a, ha, hc⟩ := h j x hx
  exact ⟨a, ha, (hb.cell (World.block_lt_of_cell? _ _ hc)).trans hc⟩
theorem below_le {B C : Nat} {w w' : World} (h : Below C w w') (hBC : B ≤ C) : Below B w w' := ⟨h.os, h.tape, h.output, h.size, fun k hk => h.block k (by omega)⟩
theorem below_and {B : Nat} {w w' w'' : World} (h : Below B w w') (hB : B ≤ w.heap.size) (h' : Below w'.heap.size w' w'') : Below B w w'' := h.trans (below_le h' (Nat.le_trans hB h.size))
theorem info32u : (Try.prog.info? 63).map (fun i => (i.zero, i.size, i.bytes)) = some (some (.int .u32 0), 1, 4) := by kernel_rfl
theorem info8 : (Try.prog.info? 5).map (fun i => (i.zero, i.size, i.bytes)) = some (some (.int .u8 0), 1, 1) := by kernel_rfl
theorem info_parts {t : TypeId} {z : Value} {k b : Nat} (h : (Try.prog.info? t).map (fun i => (i.zero, i.size, i.bytes)) = some (some z, k, b)) : ∃ i, Try.prog.info? t = some i ∧ i.zero = some z ∧ i.size = k ∧ i.bytes = b := by
  cases hi : Try.prog.info? t with
  | none => rw [hi] at h; simp at h
  | some i =>
    rw [hi] at h
    simp only [Option.map_some, Option.some.injEq, Prod.mk.injEq] at h
    exact ⟨i, rfl, h.1, h.2.1, h.2.2⟩
/-- limbs in a block of the call's own, from its beginning on -/
def Own (g : Nat) (l : List Nat) (w : World) : Prop := (∀ (j x : Nat), l[j]? = some x → w.cell? ⟨g, j, none⟩ = some (.int .u32 (x : Int))) ∧ ∀ j, w.frozen? ⟨g, j, none⟩ = false
theorem addr_add (g o j : Nat) : (⟨g, o, none⟩ : Addr).add j = ⟨g, o + j, none⟩ := by
  unfold Addr.add; split
  · rename_i h; subst h; rfl
  · rfl
theorem Own.lies {g : Nat} {l : List Nat} {w : World} (h : Own g l w) : Lies (some ⟨g, 0, none⟩) l w := fun j x hx => ⟨_, rfl, by rw [addr_add, Nat.zero_add]; exact h.1 j x hx⟩
theorem Own.below {g : Nat} {l : List Nat} {w w' : World} (h : Own g l w) (hb : Below w.heap.size w w') (hg : g < w.heap.size) : Own g l w' :=
  ⟨fun j x hx => (hb.cell hg).trans (h.1 j x hx), fun j => by rw [World.frozen?_of_block (a := ⟨g, j, none⟩) (hb.block g hg)]; exact h.2 j⟩
theorem Own.set {g : Nat} {l : List Nat} {w : World} (h : Own g l w) {j : Nat} (x : Nat) (hj : j < l.length) : Own g (l.set j x) (w.setCell ⟨g, j, none⟩ (.int .u32 (x : Int))) := by
  have hc := h.1 j l[j] (by simp [hj])
  refine ⟨fun i y hy => ?_, fun i => ?_⟩
  · by_cases hij : j = i
    · subst hij
      rw [List.getElem?_set_self hj] at hy
      injection hy with hy; subst hy
      exact World.cell?_setCell_same _ _ _ hc
    · rw [List.getElem?_set_ne hij] at hy
      rw [World.cell?_setCell_other w ⟨g, j, none⟩ ⟨g, i, none⟩ _ (by simp [hij])]
      exact h.1 i y hy
  · have := World.frozen?_setCells g [Value.int .u32 (x : Int)] j w ⟨g, i, none⟩
    exact this.trans (h.2 i)
theorem Own.take {g : Nat} {l : List Nat} {w : World} (h : Own g l w) (k : Nat) : Own g (l.take k) w := by
  refine ⟨fun j x hx => h.1 j x ?_, h.2⟩
  rw [List.getElem?_take] at hx
  split at hx
  · exact hx
  · simp at hx
theorem Own.made (n : Nat) (w : World) : Own w.heap.size (List.replicate n 0) (w.alloc (.cells (madeCells #[.int .u32 0] n) 63)) := by
  refine ⟨fun j x hx => ?_, fun j => ?_⟩
  · rw [World.cell?_alloc_mark]
    rw [List.getElem?_replicate] at hx
    split at hx
    · rename_i hj
      injection hx with hx; subst hx
      have hsz : (madeCells #[Value.int .u32 0] n).size = n := size_madeCells _ _
      rw [Array.getElem?_eq_getElem (by omega)]
      simp [madeCells, Nat.mod_one]
    · simp at hx
  · rw [World.frozen?_alloc_mark]; simp
theorem Lies.take {ao : Option Addr} {l : List Nat} {w : World} (h : Lies ao l w) (k : Nat) : Lies ao (l.take k) w := fun j x hx => by
  rw [List.getElem?_take] at hx
  split at hx
  · exact h j x hx
  · simp at hx
/-- what a Num is worth -/
def sv (neg : Bool) (n : Nat) : Int := if neg then -(n : Int) else (n : Int)
/-- a Num of whatever form, of at most K limbs, that is worth Z -/
def IsN (v : Value) (Z : Int) (K : Nat) (w : World) : Prop := ∃ (neg : Bool) (o : Option Addr) (l : List Nat) (c : Nat), v = .agg #[.bool neg, .slice o l.length c] ∧ Lies o l w ∧ l.length ≤ c ∧ Lm 4294967296 l ∧ sv neg (gval 4294967296 l) = Z ∧ l.length ≤ K
/-- a Norm of at most K limbs that is worth Z -/
def IsC (v : Value) (Z : Int) (K : Nat) (w : World) : Prop := ∃ (o : Option Addr) (c : Nat), v = .agg #[.bool (decide (Z < 0)), .slice o (glim 4294967296 Z.natAbs).length c] ∧ Lies o (glim 4294967296 Z.natAbs) w ∧ (glim 4294967296 Z.natAbs).length ≤ c ∧ (glim 4294967296 Z.natAbs).length ≤ K
theorem IsC.isN {v : Value} {Z : Int} {K : Nat} {w : World} (h : IsC v Z K w) : IsN v Z K w := by
  obtain ⟨o, c, rfl, hL, hc, hK⟩ := h
  refine ⟨_, o, _, c, rfl, hL, hc, lm_glim (by omega) _, ?_, hK⟩
  rw [gval_glim (by omega)]
  unfold sv
  by_cases hz : Z < 0
  · simp only [hz, decide_true, if_true]; omega
  · simp only [hz, decide_false, Bool.false_eq_true, if_false]; omega
theorem IsN.below {v : Value} {Z : Int} {K : Nat} {w w' : World} (h : IsN v Z K w) (hb : Below w.heap.size w w') : IsN v Z K w' := by
  obtain ⟨neg, o, l, c, rfl, hL, rest⟩ := h
  exact ⟨neg, o, l, c, rfl, hL.below hb, rest⟩
theorem IsC.below {v : Value} {Z : Int} {K : Nat} {w w' : World} (h : IsC v Z K w) (hb : Below w.heap.size w w') : IsC v Z K w' := by
  obtain ⟨o, c, rfl, hL, rest⟩ := h
  exact ⟨o, c, rfl, hL.below hb, rest⟩
theorem IsN.mono {v : Value} {Z : Int} {K K' : Nat} {w : World} (h : IsN v Z K w) (hk : K ≤ K') : IsN v Z K' w := by
  obtain ⟨neg, o, l, c, rfl, hL, hc, hm, hs, hK⟩ := h
  exact ⟨neg, o, l, c, rfl, hL, hc, hm, hs, by omega⟩
theorem IsC.mono {v : Value} {Z : Int} {K K' : Nat} {w : World} (h : IsC v Z K w) (hk : K ≤ K') : IsC v Z K' w := by
  obtain ⟨o, c, rfl, hL, hc, hK⟩ := h
  exact ⟨o, c, rfl, hL, hc, by omega⟩
/-- a Norm by its sign and its size -/
theorem isC_of {neg : Bool} {n : Nat} {o : Option Addr} {c K : Nat} {w : World} {Z : Int} (hz : sv neg n = Z) (hL : Lies o (glim 4294967296 n) w) (hc : (glim 4294967296 n).length ≤ c) (hK : (glim 4294967296 n).length ≤ K) :
    IsC (.agg #[.bool (neg && decide (n ≠ 0)), .slice o (glim 4294967296 n).length c]) Z K w := by
  have e : Z.natAbs = n := by subst hz; unfold sv; cases neg <;> simp
  have e2 : (neg && decide (n ≠ 0)) = decide (Z < 0) := by
    subst hz; unfold sv
    cases neg
    · simp
    · by_cases hn : n = 0 <;> simp [hn]; omega
  refine ⟨o, c, ?_, ?_, ?_, ?_⟩
  · rw [e2, e]
  all_goals rw [e]; assumption
theorem gval_len {l : List Nat} (h : Lm 4294967296 l) : (glim 4294967296 (gval 4294967296 l)).length ≤ l.length := (glim_len (by omega) _ _).2 (gval_lt h)
set_option maxHeartbeats 1000000 in
theorem view_raw (neg : Bool) (ao : Option Addr) (cap : Nat) (l : List Nat) (w : World) (hl : Lm 4294967296 l) (hlen : l.length ≤ 1000000) (hcap : l.length ≤ cap) (h : Lies ao l w) :
    Calls Try.prog 32 #[.agg #[.bool neg, .slice ao l.length cap]] w fun e w' => ∃ ao' cap', e = .returned (.agg #[.bool (neg && decide (gval 4294967296 l ≠ 0)), .slice ao' (glim 4294967296 (gval 4294967296 l)).length cap']) ∧ (gval 4294967296 l = 0 → ao' = none ∧ cap' = 0) ∧ (gval 4294967296 l ≠ 0 → ao' = ao ∧ cap' = cap) ∧ Lies ao' (glim 4294967296 (gval 4294967296 l)) w ∧ Below w.heap.size w w' := by
  go_enter Try.func32, Try.ntmps32
  go_wp2
  go_loopw [3] (fun v wr => ∃ k : Nat, v = .int .i64 (k : Int) ∧ k ≤ l.length ∧ wr = ((w.alloc (Obj.cells #[Value.bool neg, Value.slice ao l.length cap] 25)).alloc (Obj.cells #[Value.bool false, Value.slice none 0 0] 25)) ∧ Hid (∀ j x, k ≤ j → l[j]? = some x → x = 0)) (fun v _ => (intOf v).toNat)
  case atStart => exact ⟨l.length, rfl, Nat.le_refl _, rfl, hid fun j x hj hx => absurd (List.getElem?_eq_some_iff.1 hx).1 (by omega)⟩
  case round =>
    obtain ⟨k, rfl, hk, rfl, hH⟩ := hrel
    by_cases h0 : k = 0
    · subst h0
      have hg : Hid (gval 4294967296 l = 0) := hid (gval_zeros _ _ fun x hx => by
        obtain ⟨j, hj⟩ := List.getElem?_of_mem hx
        exact hH.out j x (Nat.zero_le _) hj)
      go_wp2
      refine bodyPost_ret (v := .agg #[.bool false, .slice none 0 0]) (by simp [results, Try.results32, go_sem]) rfl ⟨none, 0, ?_, fun _ => ⟨rfl, rfl⟩, fun e => absurd hg.out e, ?_, ?_⟩
      · rw [hg.out, glim_zero]; simp
      · rw [hg.out, glim_zero]; intro j x hx; simp at hx
      · exact ((Below.refl _ w).alloc (Nat.le_refl _) _).alloc (by simp) _
    · obtain ⟨m, rfl⟩ : ∃ m, k = m + 1 := ⟨k - 1, by omega⟩
      obtain ⟨x, hx⟩ : ∃ x, l[m]? = some x := ⟨l[m]'(by omega), by simp⟩
      obtain ⟨a, rfl, hc⟩ := h m x hx
      have e1 : (((m + 1 : Nat) : Int) - 1) = (m : Int) := by omega
      have hml : (m : Int) < (l.length : Int) := by omega
      have hpos : (0 : Int) < ((m + 1 : Nat) : Int) := by omega
      have cx : ((w.alloc (Obj.cells #[Value.bool neg, Value.slice (some a) l.length cap] 25)).alloc (Obj.cells #[Value.bool false, Value.slice none 0 0] 25)).cell? (a.add m) = some (.int .u32 (x : Int)) :=
        ((((Below.refl w.heap.size w).alloc (Nat.le_refl _) _).alloc (by simp) _).cell (World.block_lt_of_cell? _ _ hc)).trans hc
      by_cases hx0 : x = 0
      · subst hx0
        go_wp2
        go_roundw
        case rel =>
          refine ⟨m, by go_num, by omega, trivial, hid fun j y hj hy => ?_⟩
          by_cases hjm : j = m
          · subst hjm; rw [hx] at hy; injection hy with hy; exact hy.symm
          · exact hH.out j y (by omega) hy
        case measure => simp [intOf]
      · have hxz : ((x : Int) == 0) = false := by simp only [beq_eq_false_iff_ne, ne_eq]; omega
        have hmc : ((m + 1 : Nat) : Int) ≤ (cap : Int) := by omega
        have hne : Hid (gval 4294967296 l ≠ 0) := hid fun e => by
          have h1 := gval_split 4294967296 (m + 1) l hk
          rw [gval_take_succ _ hx] at h1
          have : 0 < 4294967296 ^ m * x := Nat.mul_pos (Nat.pow_pos (by omega)) (by omega)
          omega
        have hgl : Hid (glim 4294967296 (gval 4294967296 l) = l.take (m + 1)) := hid (glim_take (by omega) hl hk hH.out (.inr ⟨x, by simpa using hx, hx0⟩))
        go_wp2
        clear hxz hpos e1 hml cx
        go_region
        all_goals go_wp2
        refine bodyPost_ret (v := .agg #[.bool neg, .slice (some a) (m + 1) cap]) (by simp [results, Try.results32, go_sem]) rfl ⟨some a, cap, ?_, fun e => absurd e hne.out, fun _ => ⟨rfl, rfl⟩, ?_, ?_⟩
        · have hz := hne.out
          rw [hgl.out, List.length_take, Nat.min_eq_left hk]; simp [hz]
        · rw [hgl.out]; intro j y hy
          rw [List.getElem?_take] at hy
          split at hy
          · exact h j y hy
          · simp at hy
        · exact (((Below.refl _ w).alloc (Nat.le_refl _) _).alloc (by simp) _).drew
/-- of a value: the same number, as a Norm, on the same limbs -/
theorem view_w (v : Value) (Z : Int) (K : Nat) (w : World) (hK : K ≤ 1000000) (h : IsN v Z K w) :
    Calls Try.prog 32 #[v] w fun e w' => ∃ v', e = .returned v' ∧ (∀ u, IsN v Z K u → IsC v' Z K u) ∧ Below w.heap.size w w' := by
  obtain ⟨neg, o, l, c, rfl, hL, hc, hm, hs, hk⟩ := h
  refine (view_raw neg o c l w hm (by omega) hc hL).mono ?_
  rintro e w' ⟨ao', cap', rfl, h0, h1, h2, h3⟩
  have hle := gval_len hm
  refine ⟨_, rfl, fun u hu => ?_, h3⟩
  refine isC_of hs ?_ ?_ (by omega)
  · by_cases hz : gval 4294967296 l = 0
    · rw [hz, glim_zero]; intro j x hx; simp at hx
    · rw [(h1 hz).1]
      obtain ⟨neg', o', l', c', e1, hL', hc', hm', hs', hk'⟩ := hu
      simp only [Value.agg.injEq, Array.mk.injEq, List.cons.injEq, Value.bool.injEq, Value.slice.injEq, and_true] at e1
      obtain ⟨rfl, rfl, hll, rfl⟩ := e1
      have hg : gval 4294967296 l' = gval 4294967296 l := by
        rw [← hs'] at hs; unfold sv at hs; cases neg <;> simp at hs <;> omega
      have ht : glim 4294967296 (gval 4294967296 l') = l'.take (glim 4294967296 (gval 4294967296 l')).length := by
        obtain ⟨k, hk1, hk2⟩ := glim_is_take hm'
        rw [hk2, List.length_take]
        congr 1; omega
      rw [← hg, ht]
      exact hL'.take _
  · by_cases hz : gval 4294967296 l = 0
    · rw [hz, glim_zero]; simp
    · rw [(h1 hz).2]; omega
/-- a struct of two fields in a block of the call's own -/
def Box (g : Nat) (u v : Value) (w : World) : Prop := w.cell? ⟨g, 0, none⟩ = some u ∧ w.cell? ⟨g, 1, none⟩ = some v ∧ w.frozen? ⟨g, 0, none⟩ = false ∧ w.frozen? ⟨g, 1, none⟩ = false
theorem Box.below {g B : Nat} {u v : Value} {w w' : World} (h : Box g u v w) (hb : Below B w w') (hg : g < B) : Box g u v w' :=
  ⟨(hb.cell hg).trans h.1, (hb.cell hg).trans h.2.1, (World.frozen?_of_block (a := ⟨g, 0, none⟩) (hb.block g hg)).trans h.2.2.1, (World.frozen?_of_block (a := ⟨g, 1, none⟩) (hb.block g hg)).trans h.2.2.2⟩
theorem Box.new (w : World) (u v : Value) (t : TypeId) : Box w.heap.size u v (w.alloc (.cells #[u, v] t)) :=
  ⟨by rw [World.cell?_alloc_mark]; rfl, by rw [World.cell?_alloc_mark]; rfl, by rw [World.frozen?_alloc_mark]; simp, by rw [World.frozen?_alloc_mark]; simp⟩
theorem Box.alloc {g : Nat} {u v : Value} {w : World} (h : Box g u v w) (o : Obj) (hg : g < w.heap.size) : Box g u v (w.alloc o) := h.below ((Below.refl w.heap.size w).alloc (Nat.le_refl _) o) hg
theorem Box.drew {g : Nat} {u v : Value} {w : World} (h : Box g u v w) : Box g u v w.drew := h
theorem cutW {P : Program} {c : Code} {Q : Exit → Act → World → Prop} {a : Act} {W0 : World} (S : World → Prop) (h1 : S W0) (h : ∀ W, S W → Code.wp P c Q a W) : Code.wp P c Q a W0 := h W0 h1
/-- three boxes, newly made -/
theorem boxes3 (w : World) (a0 a1 b0 b1 c0 c1 : Value) (ta tb tc : TypeId) :
    Box w.heap.size a0 a1 (((w.alloc (.cells #[a0, a1] ta)).alloc (.cells #[b0, b1] tb)).alloc (.cells #[c0, c1] tc)) ∧ Box (w.heap.size + 1) b0 b1 (((w.alloc (.cells #[a0, a1] ta)).alloc (.cells #[b0, b1] tb)).alloc (.cells #[c0, c1] tc)) ∧ Box (w.heap.size + 1 + 1) c0 c1 (((w.alloc (.cells #[a0, a1] ta)).alloc (.cells #[b0, b1] tb)).alloc (.cells #[c0, c1] tc)) ∧ Below w.heap.size w (((w.alloc (.cells #[a0, a1] ta)).alloc (.cells #[b0, b1] tb)).alloc (.cells #[c0, c1] tc)) ∧ (((w.alloc (.cells #[a0, a1] ta)).alloc (.cells #[b0, b1] tb)).alloc (.cells #[c0, c1] tc)).heap.size = w.heap.size + 3 := by
  refine ⟨((Box.new w a0 a1 ta).alloc _ (by simp)).alloc _ (by simp; omega), ?_, ?_, (((Below.refl _ w).alloc (Nat.le_refl _) _).alloc (by simp) _).alloc (by simp; omega) _, by simp⟩
  · have := Box.new (w.alloc (.cells #[a0, a1] ta)) b0 b1 tb
    simp only [World.size_alloc] at this
    exact this.alloc _ (by simp)
  · have := Box.new ((w.alloc (.cells #[a0, a1] ta)).alloc (.cells #[b0, b1] tb)) c0 c1 tc
    simp only [World.size_alloc] at this
    exact this
end Go.Proofs.Ytccogdlmlegmbaa
