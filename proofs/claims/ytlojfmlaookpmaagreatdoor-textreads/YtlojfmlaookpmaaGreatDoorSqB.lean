/- Texts of mine, one behind the other: BigText. -/
import Derived.Test.YtlojfmlaookpmaaGreatDoorSqA
import Derived.Deep.LoopGhost
import Derived.Deep.AppendLies
import Derived.Laws.IdiomStrings
set_option linter.unusedSimpArgs false
set_option linter.unusedVariables false
set_option maxRecDepth 2000
namespace Go.Proofs.YtlojfmlaookpmaaGreatDoor
open Go.ChangeShapes Go.WideShapes Go.ChangeAt Go.RowKit
def FrB (B : Nat) (v : Value) (l : List Nat) (w : World) : Prop := w.ownsRow B 5 1 v l.length (l.map fun (x : Nat) => Value.int .u8 (x : Int))
theorem FrB.nil (B : Nat) (w : World) : FrB B (.slice none 0 0) [] w := World.ownsRow_nil _ _ _ _
theorem FrB.own {B g c : Nat} {l : List Nat} {w : World} {n : Nat} (h : FrB B (.slice (some ⟨g, 0, none⟩) n c) l w) : B ≤ g ∧ g < w.heap.size ∧ OwnB g l w ∧ l.length ≤ c := by
 rcases h.2 with ⟨hv, h0⟩ | ⟨g', cap, cur, hv, hb, hg, hnc, hcm, hcs, htake⟩
 · simp at hv
 · simp only [Value.slice.injEq, Option.some.injEq, Addr.mk.injEq, and_true] at hv
   obtain ⟨rfl, rfl, rfl⟩ := hv
   refine ⟨hb, (Array.getElem?_eq_some_iff.1 hg).1, ⟨fun j x hj => ?_, fun j => ?_⟩, hnc⟩
   · have hc : w.cell? ⟨g, j, none⟩ = cur[j]? := by simp [World.cell?, hg]
     rw [hc, ← Array.getElem?_toList]
     have hj' : j < l.length := (List.getElem?_eq_some_iff.1 hj).1
     have := congrArg (·[j]?) htake
     simp only [List.getElem?_take, List.getElem?_map, hj, Option.map_some, Nat.mul_one, if_pos hj'] at this
     exact this
   · simp [World.frozen?, hg]
theorem FrB.shape {B : Nat} {v : Value} {l : List Nat} {w : World} (h : FrB B v l w) : (v = .slice none 0 0 ∧ l = []) ∨ ∃ g c, v = .slice (some ⟨g, 0, none⟩) l.length c := by
 rcases h.2 with ⟨hv, h0⟩ | ⟨g, cap, cur, hv, _⟩
 · exact .inl ⟨hv, List.eq_nil_of_length_eq_zero h0⟩
 · exact .inr ⟨g, cap, hv⟩
theorem FrB.of_blocks {B : Nat} {v : Value} {l : List Nat} {w w' : World} (h : FrB B v l w) (hb : ∀ k, B ≤ k → k < w.heap.size → w'.heap[k]? = w.heap[k]?) : FrB B v l w' := by
 refine ⟨h.1, ?_⟩
 rcases h.2 with hn | ⟨g, cap, cur, hv, hbg, hg, rest⟩
 · exact .inl hn
 · exact .inr ⟨g, cap, cur, hv, hbg, (hb g hbg (Array.getElem?_eq_some_iff.1 hg).1).trans hg, rest⟩
theorem FrB.below {B : Nat} {v : Value} {l : List Nat} {w w' : World} (h : FrB B v l w) (hb : Below w.heap.size w w') : FrB B v l w' := h.of_blocks fun k _ hk => hb.block k hk
theorem FrB.only {B g : Nat} {v : Value} {l : List Nat} {w w' : World} (h : FrB B v l w) (ho : Only g w w') (hg : g < B) : FrB B v l w' := h.of_blocks fun k hk _ => ho.2.2 k (by omega)
theorem FrB.take {B g c n k : Nat} {l : List Nat} {w : World} (h : FrB B (.slice (some ⟨g, 0, none⟩) n c) l w) (hk : k ≤ l.length) : FrB B (.slice (some ⟨g, 0, none⟩) k c) (l.take k) w := by
 rcases h.2 with ⟨hv, h0⟩ | ⟨g', cap, cur, hv, hb, hg, hnc, hcm, hcs, htake⟩
 · simp at hv
 · simp only [Value.slice.injEq, Option.some.injEq, Addr.mk.injEq, and_true] at hv
   obtain ⟨rfl, rfl, rfl⟩ := hv
   refine ⟨by simp, .inr ⟨g, c, cur, by simp [Nat.min_eq_left hk], hb, hg, by simp; omega, hcm, hcs, ?_⟩⟩
   have := congrArg (List.take k) htake
   rw [List.take_take] at this
   simp only [Nat.mul_one, List.length_take] at this ⊢
   rw [this, List.map_take]
theorem FrB.ne_box {B gb : Nat} {v : Value} {l : List Nat} {w : World} {b : Bool} {u : Value} (h : FrB B v l w) (hb : Box gb (.bool b) u w) (hn : v = .slice none 0 0 ∨ l ≠ []) : v.ownBlock ≠ some gb := by
 rcases h.shape with ⟨rfl, _⟩ | ⟨g, c, rfl⟩
 · simp [Value.ownBlock]
 · obtain ⟨h1, h2, h3, h4⟩ := h.own
   intro e
   simp only [Value.ownBlock, Option.some.injEq] at e
   subst e
   rcases hn with hn | hn
   · simp at hn
   · cases l with
     | nil => exact hn rfl
     | cons x t =>
       have := h3.1 0 x (by simp)
       rw [hb.1] at this
       simp at this
theorem Box.grown {gb : Nat} {u v : Value} {w w' : World} {row : Option Nat} (h : Box gb u v w) (hg : w.grownBy w' row) (hne : row ≠ some gb) : Box gb u v w' := by
 have hlt : gb < w.heap.size := World.block_lt_of_cell? _ _ h.1
 have hn : some gb ≠ row := fun e => hne e.symm
 exact ⟨(hg.cell_far ⟨gb, 0, none⟩ hlt hn).trans h.1, (hg.cell_far ⟨gb, 1, none⟩ hlt hn).trans h.2.1, (hg.frozen_far ⟨gb, 0, none⟩ hlt hn).trans h.2.2.1, (hg.frozen_far ⟨gb, 1, none⟩ hlt hn).trans h.2.2.2⟩
theorem OwnB.string {g c : Nat} {l : List Nat} {w : World} (h : OwnB g l w) (hl : ∀ x ∈ l, x < 256) : (convert 25 9 (.slice (some ⟨g, 0, none⟩) l.length c)).run Tryz.prog w = .ok (.string ⟨(l.map UInt8.ofNat).toArray⟩) w := by
 have := run_convert_bytes_back (P := Tryz.prog) w 25 9 5 ⟨g, 0, none⟩ c (l.map UInt8.ofNat) Tryz.underlying25 Tryz.underlying5 Tryz.underlying9 (fun j hj => by
   rw [addr_add, Nat.zero_add]
   have hj' : j < l.length := by simpa using hj
   rw [h.1 j l[j] (by simp [hj'])]
   have := hl l[j] (List.getElem_mem hj')
   simp only [List.getElem_map, UInt8.toNat_ofNat']
   rw [Nat.mod_eq_of_lt (by omega)])
 rw [List.length_map] at this
 exact this
theorem Own.below' {g B : Nat} {l : List Nat} {w w' : World} (h : Own g l w) (hb : Below B w w') (hg : g < B) : Own g l w' :=
 ⟨fun j x hx => (hb.cell hg).trans (h.1 j x hx), fun j => by rw [World.frozen?_of_block (a := ⟨g, j, none⟩) (hb.block g hg)]; exact h.2 j⟩
def txtN (Z : Int) : List Nat := if Z = 0 then [48] else (((glim 10 Z.natAbs).map fun d => 48 + d) ++ (if Z < 0 then [45] else [])).reverse
def txt (Z : Int) : List UInt8 := (txtN Z).map UInt8.ofNat
theorem lm10 {ds : List Nat} (h : Lm 10 ds) : ∀ x ∈ ds.map (fun d => 48 + d), x < 256 := fun x hx => by
 obtain ⟨d, hd, rfl⟩ := List.mem_map.1 hx
 have := h d hd; omega
theorem len_bound {s N M K : Nat} (hN : 0 < N) (h : 10 ^ s * N ≤ M) (hM : M < 4294967296 ^ K) : s < 32 * K + 1 := by
 have h1 : 10 ^ s * 1 ≤ 10 ^ s * N := Nat.mul_le_mul_left _ hN
 have h2 : (2 : Nat) ^ s ≤ 10 ^ s := Nat.pow_le_pow_left (by omega) s
 have h3 : (4294967296 : Nat) ^ K = 2 ^ (32 * K) := by rw [Nat.pow_mul]
 have h4 : (2 : Nat) ^ s < 2 ^ (32 * K) := by omega
 have := (Nat.pow_lt_pow_iff_right (by omega : 1 < 2)).1 h4
 omega
theorem ten_step {S p low N : Nat} {M : Nat} (h : S + p * N = M) (hl : N % 1000000000 = low) : S + p * low + p * 1000000000 * (N / 1000000000) = M := by
 rw [← h, Nat.add_assoc, Nat.mul_assoc, ← Nat.mul_add, ← hl, Nat.mod_add_div]
theorem view_raw2 (neg : Bool) (ao : Option Addr) (cap n : Nat) (l : List Nat) (w : World) (hn : l.length = n) (hl : Lm 4294967296 l) (hlen : l.length ≤ 1000000) (hcap : l.length ≤ cap) (h : Lies ao l w) :
   Calls Tryz.prog 105 #[.agg #[.bool neg, .slice ao n cap]] w fun e w' => ∃ ao' cap', e = .returned (.agg #[.bool (neg && decide (gval 4294967296 l ≠ 0)), .slice ao' (glim 4294967296 (gval 4294967296 l)).length cap']) ∧ (gval 4294967296 l = 0 → ao' = none ∧ cap' = 0) ∧ (gval 4294967296 l ≠ 0 → ao' = ao ∧ cap' = cap) ∧ Lies ao' (glim 4294967296 (gval 4294967296 l)) w ∧ Below w.heap.size w w' := by
 subst hn; exact view_raw neg ao cap l w hl hlen hcap h
theorem reverse_w2 (g c n : Nat) (l : List Nat) (w : World) (hn : l.length = n) (hlen : l.length ≤ 1000000) (hO : OwnB g l w) :
   Calls Tryz.prog 107 #[.slice (some ⟨g, 0, none⟩) n c] w fun e w' => (∃ v, e = .returned v) ∧ OwnB g l.reverse w' ∧ Only g w w' := by
 subst hn; exact reverse_w g c l w hlen hO
theorem OwnB.string2 {g c n : Nat} {l : List Nat} {w : World} (h : OwnB g l w) (hn : l.length = n) (hl : ∀ x ∈ l, x < 256) : (convert 25 9 (.slice (some ⟨g, 0, none⟩) n c)).run Tryz.prog w = .ok (.string ⟨(l.map UInt8.ofNat).toArray⟩) w := by
 subst hn; exact h.string hl
set_option maxHeartbeats 1000000 in
theorem text_w (v : Value) (Z : Int) (K : Nat) (w : World) (hK : K ≤ 10000) (h : IsN v Z K w) :
   Calls Tryz.prog 78 #[v] w fun e w' => e = .returned (.string ⟨(txt Z).toArray⟩) ∧ Below w.heap.size w w' := by
 have hA : ∀ w', Below w.heap.size w w' → IsN v Z K w' := fun w' hw => h.below hw
 obtain ⟨neg, o, l, c, rfl, hL, hc, hm, hs, hk⟩ := h
 clear hL hc hm hs hk
 have kA := Box.new w (.bool neg) (.slice o l.length c) 117
 have hB0 : Below w.heap.size w (w.alloc (.cells #[.bool neg, .slice o l.length c] 117)) := (Below.refl _ w).alloc (Nat.le_refl _) _
 have hz0 : (w.alloc (.cells #[.bool neg, .slice o l.length c] 117)).heap.size = w.heap.size + 1 := by simp
 obtain ⟨R, hR⟩ : ∃ R, txt Z = R := ⟨_, rfl⟩
 rw [hR]
 have hR' := hid hR
 clear hR
 go_enter Tryz.func78, Tryz.ntmps78
 go_wp2_with fail
 generalize (w.alloc (.cells #[.bool neg, .slice o l.length c] 117)) = W0 at *
 refine (norm_w _ Z K _ (by omega) (hA _ hB0)).mono ?_
 rintro e w1 ⟨sl, rfl, hF, hKl, b1⟩
 clear hA
 obtain ⟨nz, hnz⟩ : ∃ nz, decide (Z < 0) = nz := ⟨_, rfl⟩
 rw [hnz]
 generalize hM : Z.natAbs = M at *
 have hz1 := b1.size
 have kA1 := kA.below b1 (by omega)
 have hB1 := below_and hB0 (Nat.le_refl _) b1
 obtain ⟨o1, c1, rfl, L1, z1, hown⟩ := hF.parts
 obtain ⟨p1, p2, p3, p4⟩ := id kA1
 have kA2 : Box w.heap.size (.bool nz) (.slice o1 (glim 4294967296 M).length c1) ((w1.setCell ⟨w.heap.size, 0, none⟩ (.bool nz)).setCell ⟨w.heap.size, 1, none⟩ (.slice o1 (glim 4294967296 M).length c1)) := kA1.put
 have hB2 := (hB1.setCell (p := ⟨w.heap.size, 0, none⟩) (Nat.le_refl _) (.bool nz)).setCell (p := ⟨w.heap.size, 1, none⟩) (Nat.le_refl _) (.slice o1 (glim 4294967296 M).length c1)
 have hz2 : ((w1.setCell ⟨w.heap.size, 0, none⟩ (.bool nz)).setCell ⟨w.heap.size, 1, none⟩ (.slice o1 (glim 4294967296 M).length c1)).heap.size = w1.heap.size := by simp
 have hF2 : Fr W0.heap.size _ _ _ := (hF.set (p := ⟨w.heap.size, 0, none⟩) (by simp; omega) (.bool nz)).set (p := ⟨w.heap.size, 1, none⟩) (by simp; omega) (.slice o1 (glim 4294967296 M).length c1)
 have hM' := hid hM
 have hnz' := hid hnz
 clear hM hnz
 by_cases hZ0 : M = 0
 · subst hZ0
   have hl0 : glim 4294967296 0 = [] := by simp [glim_zero]
   have hRe : R = [48] := by rw [← hR'.out, show Z = 0 by have := hM'.out; omega]; rfl
   rw [hl0] at hB2 ⊢
   subst hRe
   clear hz2 hF2 kA2 hKl hown z1 L1 hF
   go_wp2
   go_ret
   exact ⟨rfl, hB2⟩
 · have hM0 : 0 < M := by omega
   have hne : glim 4294967296 M ≠ [] := glim_ne (by omega) hM0
   have hlp : 0 < (glim 4294967296 M).length := List.length_pos_iff.2 hne
   have hlpz : ((((glim 4294967296 M).length : Nat) : Int) == 0) = false := by simp; omega
   obtain ⟨g, rfl, hg1, hg2, hO1⟩ := hown hne
   obtain ⟨hg1', hg2', hO2, _⟩ := hF2.own
   have hMK : M < 4294967296 ^ K := (glim_len (by omega) _ _).1 hKl
   have hz2' := hid hz2
   clear hown hO1 L1 hF hF2 kA1 hB1 kA b1 hlp hZ0 hz2
   go_wp2
   clear p1 p2 p3 p4
   generalize ((w1.setCell ⟨w.heap.size, 0, none⟩ (.bool nz)).setCell ⟨w.heap.size, 1, none⟩ (.slice (some ⟨g, 0, none⟩) (glim 4294967296 M).length c1)) = W2 at *
   have hz2 := hz2'.out
   have hg2w : g < w1.heap.size := by omega
   have kN2 := Box.new W2 (.bool nz) (.slice (some ⟨g, 0, none⟩) (glim 4294967296 M).length c1) 117
   have hO3 : Own g (glim 4294967296 M) (W2.alloc (.cells #[.bool nz, .slice (some ⟨g, 0, none⟩) (glim 4294967296 M).length c1] 117)) := hO2.below' ((Below.refl W2.heap.size W2).alloc (Nat.le_refl _) _) (by omega)
   have kA3 := kA2.alloc (.cells #[.bool nz, .slice (some ⟨g, 0, none⟩) (glim 4294967296 M).length c1] 117) (by omega)
   have hB3 := hB2.alloc hB2.size (.cells #[.bool nz, .slice (some ⟨g, 0, none⟩) (glim 4294967296 M).length c1] 117)
   rw [hz2] at kN2
   clear hB2 hO2
   go_loopg [3, 4] M (fun N vo vp wr => ∃ (ds : List Nat) (gb c' : Nat) (oN : Option Addr) (nb : Bool), vp = .pointer (some ⟨gb, 0, none⟩) ∧ w1.heap.size ≤ gb ∧ Box gb (.bool nb) (.slice oN (glim 4294967296 N).length c') wr ∧ (0 < N → oN = some ⟨g, 0, none⟩) ∧ Own g (glim 4294967296 N) wr ∧ (glim 4294967296 N).length ≤ c' ∧ FrB w1.heap.size vo (ds.map fun d => 48 + d) wr ∧ Lm 10 ds ∧ Below w.heap.size w wr ∧ Box w.heap.size (.bool nz) (.slice (some ⟨g, 0, none⟩) (glim 4294967296 M).length c1) wr ∧ w1.heap.size ≤ wr.heap.size ∧ gval 10 ds + 10 ^ ds.length * N = M ∧ (vo = .slice none 0 0 ∨ ds ≠ []) ∧ ds.length < 32 * K + 1 + 9)
   case atStart =>
     exact ⟨[], w1.heap.size, c1, _, nz, rfl, Nat.le_refl _, kN2, fun _ => rfl, hO3, z1, FrB.nil _ _, Lm.nil _, hB3, kA3, by simp; omega, by simp [gval], .inl rfl, by simp⟩
   case round =>
     obtain ⟨ds, gb, c', oN, nb, rfl, hgb, kL, hoN, hON, zN, hFB, hds, hBr, kAr, hzr, hval, hnil, hlen⟩ := hrel
     generalize gk = N at *
     clear kN2 hO3 kA3 hB3 kA2
     have hgbl : gb < wr.heap.size := World.block_lt_of_cell? _ _ kL.1
     obtain ⟨q1, q2, q3, q4⟩ := id kL
     by_cases hN0 : N = 0
     · subst hN0
       have hl0 : (glim 4294967296 0).length = 0 := by simp [glim_zero]
       have hgv : gval 10 ds = M := by simpa using hval
       have hdne : ds ≠ [] := fun e => by rw [e] at hgv; simp [gval] at hgv; omega
       have hsh := hFB.shape
       rw [List.length_map] at hsh
       rcases hsh with ⟨_, h2⟩ | ⟨go, co, h2⟩
       · exact absurd (by simpa using h2) hdne
       subst h2
       obtain ⟨ho1, ho2, hOB, hoc⟩ := hFB.own
       simp only [List.length_map] at hoc
       have hdl : ds.length < 32 * K + 1 + 9 := hlen
       have hgv' := hid hgv
       have hval' := hid hval
       clear hgv hval hON hoN
       go_wp2
       have hdl0 : 0 < ds.length := List.length_pos_iff.2 hdne
       go_loopg [3] ds.length (fun k v3 wx => wx = wr ∧ 0 < k ∧ k ≤ ds.length ∧ v3 = .slice (some ⟨go, 0, none⟩) k co ∧ ∀ j x, k ≤ j → ds[j]? = some x → x = 0)
       case atStart => exact ⟨rfl, hdl0, Nat.le_refl _, rfl, fun j x hj hx => absurd (List.getElem?_eq_some_iff.1 hx).1 (by omega)⟩
       case round =>
         obtain ⟨rfl, hk0, hkl, rfl, hzz⟩ := hrel
         have hzz' := hid hzz
         clear hzz
         obtain ⟨m, rfl⟩ : ∃ m, gk = m + 1 := ⟨gk - 1, by omega⟩
         obtain ⟨x, hx⟩ : ∃ x, ds[m]? = some x := ⟨ds[m]'(by omega), by simp⟩
         have hxm := hds.at hx
         obtain ⟨bb, hbb⟩ : ∃ bb, 48 + x = bb := ⟨_, rfl⟩
         have cx := hOB.1 m bb (by rw [List.getElem?_map, hx]; simp [hbb])
         have e1 : (((m + 1 : Nat) : Int) - 1) = (m : Int) := by omega
         have e2 : ((m : Int) + 1 - 1) = (m : Int) := by omega
         have hml : (m : Int) < ((m + 1 : Nat) : Int) := by omega
         have hmc : (m : Int) ≤ (co : Int) := by omega
         by_cases hx0 : x = 0
         · subst hx0
           have hm0 : 0 < m := by
             refine Nat.pos_of_ne_zero fun e => ?_
             subst e
             have : gval 10 ds = 0 := gval_zeros _ _ fun y hy => by
               obtain ⟨j, hj⟩ := List.getElem?_of_mem hy
               by_cases hj0 : j = 0
               · subst hj0; rw [hx] at hj; injection hj with hj; exact hj.symm
               · exact hzz'.out j y (by omega) hj
             have := hgv'.out; omega
           have hb48 : bb = 48 := by omega
           subst hb48
           have hx' := hid hx
           clear hx hbb
           go_wp2
           go_roundg m
           case measure => omega
           case rel =>
             refine ⟨rfl, hm0, by omega, rfl, fun j y hj hy => ?_⟩
             by_cases hjm : j = m
             · subst hjm; rw [hx'.out] at hy; injection hy with hy; exact hy.symm
             · exact hzz'.out j y (by omega) hy
         · have hbz : ((bb : Int) == 48) = false := by simp only [beq_eq_false_iff_ne, ne_eq]; omega
           have hgl : Hid (glim 10 M = ds.take (m + 1)) := hid (by
             rw [← hgv'.out]
             exact glim_take (by omega) hds hkl hzz'.out (.inr ⟨x, by simpa using hx, hx0⟩))
           have hFt := hFB.take (k := m + 1) (by simp; omega)
           rw [← List.map_take, ← hgl.out] at hFt
           have hgll : (glim 10 M).length = m + 1 := by rw [hgl.out, List.length_take]; omega
           have hgm := lm_glim (b := 10) (by omega) M
           have hRr := hR'.out
           unfold txt txtN at hRr
           rw [if_neg (by have := hM'.out; omega), hM'.out] at hRr
           have hnzv := hnz'.out
           clear hx hbb hzz' hgl hgv' hval' hFB hOB
           obtain ⟨r1, r2, r3, r4⟩ := id kAr
           cases nz with
           | true =>
             rw [if_pos (by simpa using hnzv)] at hRr
             have hRr' := hid hRr
             clear hRr hnzv
             obtain ⟨i0, hi, hy0, hy1, hy2⟩ := info_parts info8
             go_wp2_with (at_builtin; refine wpList_append_own _ rfl _ _ 25 rfl w1.heap.size 5 i0 (.int .u8 0) 1 1 Tryz.underlying25 hi hy0 hy1 hy2 rfl (by decide) _ _ _ rfl (World.ownsRow.alloc hFt _) ⟨wr.heap.size, 0, none⟩ 1 1 [.int .u8 45] rfl rfl ?c1 ?c2 ?c3 ?c4 ?c5 ?_)
             case c1 =>
               intro j u hj
               match j, hj with
               | 0, hj => simp at hj; subst hj; simp [Addr.add]
               | j + 1, hj => simp at hj
             case c2 => intro u hu; simp at hu; subst hu; rfl
             case c3 => simp; unfold maxLen; omega
             case c4 => simp; omega
             case c5 => simp; omega
             intro v' w2 hown' hgrow hnn
             have hF2 : FrB w1.heap.size v' (((glim 10 M).map fun d => 48 + d) ++ [45]) w2 := by
               unfold FrB
               have hln : (((glim 10 M).map fun (d : Nat) => 48 + d) ++ [45]).length = m + 1 + 1 := by simp [hgll]
               rw [hln]
               have e2 : ((((glim 10 M).map fun d => 48 + d) ++ [45]).map fun (x : Nat) => Value.int .u8 (x : Int)) = List.map ((fun (x : Nat) => Value.int IntKind.u8 (x : Int)) ∘ fun d => 48 + d) (glim 10 M) ++ [Value.int IntKind.u8 45] := by simp
               rw [e2]
               exact hown'
             have hBz : Below w.heap.size w w2 := (hBr.alloc hBr.size _).grown hgrow (by simp; omega) (fun q hq => by simp only [Value.ownBlock, Option.some.injEq] at hq; omega)
             have hsh := hF2.shape
             rcases hsh with ⟨h2, _⟩ | ⟨gz, cz, rfl⟩
             · exact absurd h2 hnn
             have hlz : (((glim 10 M).map fun d => 48 + d) ++ [45]).length = m + 2 := by simp [hgll]
             have hby : ∀ x ∈ ((glim 10 M).map fun d => 48 + d) ++ [45], x < 256 := fun x hx => by
               rcases List.mem_append.1 hx with hx | hx
               · exact lm10 hgm x hx
               · simp at hx; omega
             obtain ⟨hz1, hz2, hOz, hzc⟩ := hF2.own
             generalize ((glim 10 M).map fun d => 48 + d) ++ [45] = Y at *
             rw [hlz]
             clear hown' hF2 hFt
             go_wp2_with fail
             refine (reverse_w2 _ _ _ Y _ hlz (by omega) hOz).mono ?_
             rintro e w9 ⟨⟨rv, rfl⟩, hO9, ho9⟩
             have hst := hO9.string2 (c := cz) (n := m + 2) (by rw [List.length_reverse]; exact hlz) (fun x hx => hby x (by simpa using hx))
             rw [hRr'.out] at hst
             go_wp2
             go_ret
             exact ⟨rfl, hBz.trans (ho9.below (by omega))⟩
           | false =>
             rw [if_neg (by simpa using hnzv), List.append_nil] at hRr
             have hRr' := hid hRr
             clear hRr hnzv
             have hlz : ((glim 10 M).map fun d => 48 + d).length = m + 1 := by simp [hgll]
             have hby : ∀ x ∈ ((glim 10 M).map fun d => 48 + d), x < 256 := lm10 hgm
             obtain ⟨hz1, hz2, hOz, hzc⟩ := hFt.own
             have hBz := hBr
             generalize ((glim 10 M).map fun d => 48 + d) = Y at *
             clear hFt
             go_wp2_with fail
             refine (reverse_w2 _ _ _ Y _ hlz (by omega) hOz).mono ?_
             rintro e w9 ⟨⟨rv, rfl⟩, hO9, ho9⟩
             have hst := hO9.string2 (c := co) (n := m + 1) (by rw [List.length_reverse]; exact hlz) (fun x hx => hby x (by simpa using hx))
             rw [hRr'.out] at hst
             go_wp2
             go_ret
             exact ⟨rfl, hBz.trans (ho9.below (by omega))⟩
     · have hN1 : 0 < N := by omega
       have hoN' := hoN hN1
       subst hoN'
       have hneN : glim 4294967296 N ≠ [] := glim_ne (by omega) hN1
       have hlN : 0 < (glim 4294967296 N).length := List.length_pos_iff.2 hneN
       have hlNz : (0 : Int) < ((glim 4294967296 N).length : Int) := by omega
       have hlenK : (glim 4294967296 N).length ≤ K := (glim_len (by omega) _ _).2 (by
         have h1 : 1 * N ≤ 10 ^ ds.length * N := Nat.mul_le_mul_right _ (Nat.pow_pos (by omega))
         omega)
       have hdl : ds.length < 32 * K + 1 := len_bound hN1 (by omega) hMK
       go_wp2_with fail
       refine (shrink_w g c' 1000000000 _ _ (by omega) (by omega) (lm_glim (by omega) N) (by omega) hON).mono ?_
       rintro e w5 ⟨rfl, L, hL5, hLm5, hg5, hl5, ho5⟩
       rw [gval_glim (by omega)] at hg5 ⊢
       have kL5 := kL.only ho5 (by omega)
       have hF5 := hFB.only ho5 (by omega)
       have kA5 := kAr.only ho5 (by omega)
       have hB5 : Below w.heap.size w w5 := hBr.trans (ho5.below (by omega))
       have hz5 : w5.heap.size = wr.heap.size := ho5.2.1
       obtain ⟨low, hlow⟩ : ∃ low, N % 1000000000 = low := ⟨_, rfl⟩
       have hlowm : low < 1000000000 := by rw [← hlow]; exact Nat.mod_lt _ (by omega)
       rw [hlow]
       have hlow' := hid hlow
       have hval' := hid hval
       have hg5' := hid hg5
       clear hlow hval hg5 q1 q2 q3 q4 kL hFB kAr hBr hON hlNz
       go_wp2
       have hBy5 : Below w1.heap.size w5 w5 := Below.refl _ _
       go_loopg [3, 5, 22] 9 (fun t vo2 lv iv wx => ∃ (k lk : Nat) (es : List Nat), t + k = 9 ∧ iv = .int .i64 (k : Int) ∧ lv = .int .u32 (lk : Int) ∧ es.length = k ∧ Lm 10 es ∧ gval 10 es + 10 ^ k * lk = low ∧ FrB w1.heap.size vo2 ((ds ++ es).map fun d => 48 + d) wx ∧ Below w1.heap.size w5 wx ∧ Box gb (.bool nb) (.slice (some ⟨g, 0, none⟩) (glim 4294967296 N).length c') wx ∧ (vo2 = .slice none 0 0 ∨ ds ++ es ≠ []))
       case atStart => exact ⟨0, low, [], rfl, rfl, rfl, rfl, Lm.nil _, by simp [gval], by simpa using hF5, hBy5, kL5, by simpa using hnil⟩
       case round =>
         obtain ⟨k, lk, es, htk, rfl, rfl, hel, hes, hev, hFx, hBx, kLx, hnx⟩ := hrel
         have hfl : (((ds ++ es).map fun d => 48 + d)).length = ds.length + k := by simp [hel]
         obtain ⟨q1, q2, q3, q4⟩ := id kLx
         by_cases hk9 : k < 9
         · have hk9z : (k : Int) < 9 := by omega
           have hlk : lk < 1000000000 := by
             have h1 : 1 * lk ≤ 10 ^ k * lk := Nat.mul_le_mul_right _ (Nat.pow_pos (by omega))
             omega
           obtain ⟨dk, hdk⟩ : ∃ dk, lk % 10 = dk := ⟨_, rfl⟩
           obtain ⟨lk2, hlk2⟩ : ∃ lk2, lk / 10 = lk2 := ⟨_, rfl⟩
           obtain ⟨bb, hbb⟩ : ∃ bb, 48 + dk = bb := ⟨_, rfl⟩
           have m1 : (lk : Int) % 10 = (dk : Int) := by omega
           have m2 : IntKind.u32.wrap (48 + (dk : Int)) = (bb : Int) := by rw [IntKind.wrap_u32]; omega
           have m3 : IntKind.u8.wrap (bb : Int) = (bb : Int) := by rw [IntKind.wrap_u8]; omega
           have m4 : (lk : Int) / 10 = (lk2 : Int) := by omega
           have m5 : IntKind.u32.wrap (lk2 : Int) = (lk2 : Int) := by rw [IntKind.wrap_u32]; omega
           have hbook : Hid (dk < 10 ∧ 48 + dk = bb ∧ dk + 10 * lk2 = lk) := hid ⟨by omega, hbb, by omega⟩
           have hev' := hid hev
           clear hdk hlk2 hbb hev
           obtain ⟨i0, hi, hy0, hy1, hy2⟩ := info_parts info8
           go_wp2_with (at_builtin; refine wpList_append_own _ rfl _ _ 25 rfl w1.heap.size 5 i0 (.int .u8 0) 1 1 Tryz.underlying25 hi hy0 hy1 hy2 rfl (by decide) _ _ _ rfl (World.ownsRow.alloc hFx _) ⟨wr.heap.size, 0, none⟩ 1 1 [.int .u8 (bb : Int)] rfl rfl ?c1 ?c2 ?c3 ?c4 ?c5 ?_)
           case c1 =>
             intro j u hj
             match j, hj with
             | 0, hj => simp at hj; subst hj; simp [Addr.add]
             | j + 1, hj => simp at hj
           case c2 => intro u hu; simp at hu; subst hu; rfl
           case c3 => unfold maxLen; omega
           case c4 => omega
           case c5 => have := hBx.size; simp; omega
           intro v' w2 hown' hgrow _
           have kL2 : Box gb _ _ w2 := Box.grown (kLx.alloc _ (World.block_lt_of_cell? _ _ q1)) hgrow (hFx.ne_box kLx (by
             rcases hnx with h | h
             · exact .inl h
             · exact .inr (by simpa using h)))
           have hBx2 : Below w1.heap.size w5 w2 := (hBx.alloc (by have := hBx.size; omega) _).grown hgrow (by have := hBx.size; simp; omega) (fun q hq => by
             rcases hFx.shape with ⟨rfl, _⟩ | ⟨gg, cc, rfl⟩
             · simp [Value.ownBlock] at hq
             · simp only [Value.ownBlock, Option.some.injEq] at hq
               have := hFx.own.1; omega)
           have hF2 : FrB w1.heap.size v' ((ds ++ (es ++ [dk])).map fun d => 48 + d) w2 := by
             unfold FrB
             rw [show ((ds ++ (es ++ [dk])).map fun d => 48 + d).length = ds.length + k + 1 by simp [hel]; omega]
             have e2 : (((ds ++ (es ++ [dk])).map fun d => 48 + d).map fun (x : Nat) => Value.int .u8 (x : Int)) = List.map ((fun (x : Nat) => Value.int IntKind.u8 (x : Int)) ∘ fun d => 48 + d) ds ++ (List.map ((fun (x : Nat) => Value.int IntKind.u8 (x : Int)) ∘ fun d => 48 + d) es ++ [Value.int IntKind.u8 (bb : Int)]) := by simp [← hbook.out.2.1]
             rw [e2]
             exact hown'
           go_wp2
           go_roundg (gk - 1)
           case measure => omega
           case rel =>
             have hbk := hbook.out
             refine ⟨k + 1, lk2, es ++ [dk], by omega, by go_num, by first | rfl | (congr 1), by simp [hel], hes.append (Lm.cons hbk.1 (Lm.nil _)), ?_, hF2, hBx2, kL2, .inr (by simp)⟩
             rw [gval_append, hel, ← hev'.out, ← hbk.2.2]
             show gval 10 es + 10 ^ k * (dk + 10 * 0) + 10 ^ (k + 1) * lk2 = gval 10 es + 10 ^ k * (dk + 10 * lk2)
             rw [Nat.pow_succ]
             generalize 10 ^ k = p10
             rw [Nat.mul_add p10 dk (10 * lk2), Nat.mul_assoc p10 10 lk2, Nat.mul_zero, Nat.add_zero]; omega
         · have hk9' : k = 9 := by omega
           subst hk9'
           have hlk0 : lk = 0 := by omega
           subst hlk0
           have hz6 : (wr.alloc (.cells #[.bool nb, .slice (some ⟨g, 0, none⟩) (glim 4294967296 N).length c'] 117)).heap.size = wr.heap.size + 1 := by simp
           have hB6 : Below wr.heap.size wr (wr.alloc (.cells #[.bool nb, .slice (some ⟨g, 0, none⟩) (glim 4294967296 N).length c'] 117)) := (Below.refl _ _).alloc (Nat.le_refl _) _
           have kN6 := Box.new wr (.bool nb) (.slice (some ⟨g, 0, none⟩) (glim 4294967296 N).length c') 117
           have hOx : Own g L wr := hL5.below' hBx (by omega)
           have hsx := hBx.size
           go_wp2_with fail
           generalize (wr.alloc (.cells #[.bool nb, .slice (some ⟨g, 0, none⟩) (glim 4294967296 N).length c'] 117)) = W6 at *
           refine (view_raw2 nb (some ⟨g, 0, none⟩) c' _ L W6 hl5 hLm5 (by omega) (by omega) ((hOx.below' hB6 (by omega)).lies)).mono ?_
           rintro e w7 ⟨ao', cap', rfl, hr0, hr1, hr2, hr3⟩
           rw [hg5'.out] at hr0 hr1 ⊢
           have kN7 := kN6.below hr3 (by omega)
           obtain ⟨s1, s2, s3, s4⟩ := id kN7
           have hB7 : Below wr.heap.size wr w7 := below_and hB6 (Nat.le_refl _) hr3
           have hdm := Nat.div_add_mod N 1000000000
           go_wp2
           go_roundg (N / 1000000000)
           case measure => exact Nat.div_lt_self hN1 (by omega)
           case rel =>
             have hB8 : ∀ x y, Below wr.heap.size wr ((w7.setCell ⟨wr.heap.size, 0, none⟩ x).setCell ⟨wr.heap.size, 1, none⟩ y) := fun x y => (hB7.setCell (p := ⟨wr.heap.size, 0, none⟩) (Nat.le_refl _) x).setCell (p := ⟨wr.heap.size, 1, none⟩) (Nat.le_refl _) y
             have hOt : Own g (glim 4294967296 (N / 1000000000)) wr := by
               obtain ⟨kk, hkk, hkt⟩ := glim_is_take hLm5
               rw [hg5'.out] at hkt
               rw [hkt]; exact hOx.take kk
             refine ⟨ds ++ es, wr.heap.size, cap', ao', _, rfl, by omega, kN7.put, fun hp => (hr1 (by omega)).1, hOt.below' (hB8 _ _) (by omega), ?_, hFx.below (hB8 _ _), hds.append hes, ?_, (kA5.below hBx (by omega)).below (hB8 _ _) (by omega), ?_, ?_, .inr (by simp; intro _ h; rw [h] at hel; simp at hel), by rw [List.length_append, hel]; omega⟩
             · have hle : (glim 4294967296 (N / 1000000000)).length ≤ (glim 4294967296 N).length := (glim_len (by omega) _ _).2 (Nat.lt_of_le_of_lt (Nat.div_le_self _ _) (glim_lt (by omega) N))
               by_cases hq : N / 1000000000 = 0
               · rw [hq, glim_zero]; simp
               · rw [(hr1 hq).2]; omega
             · exact (hB5.trans (below_le hBx (by omega))).trans (below_le (hB8 _ _) (by omega))
             · have := hB7.size; simp; omega
             · rw [gval_append, List.length_append, hel, Nat.pow_add]
               have hge : gval 10 es = low := by simpa using hev
               rw [hge]
               exact ten_step hval'.out hlow'.out
end Go.Proofs.YtlojfmlaookpmaaGreatDoor
