/- Texts of mine, one behind the other: TextRf5, TextRf2, BigRMul, BigRDig, BigRParse, TextRf6. -/
import Derived.Test.YtlojfmlaookpmaaGreatDoorSqP
import Derived.Test.YtlojfmlaookpmaaGreatDoorSqK
import Derived.Test.YtlojfmlaookpmaaGreatDoorSqD
import Derived.Test.YtlojfmlaookpmaaGreatDoorSqL
import Derived.Test.YtlojfmlaookpmaaGreatDoorSqH
set_option linter.unusedSimpArgs false
set_option linter.unusedVariables false
set_option maxRecDepth 2000
namespace Go.Proofs.YtlojfmlaookpmaaGreatDoor
open Go.ChangeShapes Go.WideShapes Go.ChangeAt Go.RowKit Go.Shelf
def aftL (o : Op) (T : Tm) (q : List UInt8) : Option Tm × List UInt8 :=
 match (putL o T q).1 with
 | .no => (none, (putL o T q).2)
 | .tm U => (some U, (putL o T q).2)
 | .rw o2 => rowL o2 (putL o T q).2
theorem row_aft {o : Op} {r : List UInt8} {T : Tm} (h : (readL r).1 = some T) : rowL o r = aftL o T (readL r).2 := by
 rw [row_eq, h]; rfl
theorem skR_yes {c : UInt8} {q : List UInt8} (h : skB c q = true) : q = c :: skR c q := by
 unfold skB at h
 unfold skR
 cases q with
 | nil => simp at h
 | cons b t => simp at h; subst h; simp
theorem skB_ne {c d : UInt8} {q : List UInt8} (h : skB c q = true) (hd : d ≠ c) : skB d q = false := by
 rw [skR_yes h]
 unfold skB
 simp [Ne.symm hd]
theorem aft_comma {c : UInt8} {l : List Tm} {T : Tm} {q : List UInt8} (hc : c = 93 ∨ c = 125) (h : skB 44 q = true) : aftL ⟨c, l, false⟩ T q = rowL ⟨c, l ++ [T], false⟩ (skR 44 q) := by
 have hn : skB c q = false := skB_ne h (by rcases hc with rfl | rfl <;> decide)
 unfold aftL putL
 simp only [hn, h, if_true, Bool.false_eq_true, if_false, Op.add]
theorem aft_tup {l : List Tm} {T : Tm} {q : List UInt8} (h : skB 125 q = true) : aftL ⟨125, l, false⟩ T q = (some (tupT (l ++ [T])), skR 125 q) := by
 unfold aftL putL
 simp only [h, if_true, wholeL, Op.add, hdO]
theorem aft_tup_no {l : List Tm} {T : Tm} {q : List UInt8} (h : skB 125 q = false) (h2 : skB 44 q = false) : (aftL ⟨125, l, false⟩ T q).1 = none := by
 unfold aftL putL
 have e : ¬ ((125 : UInt8) = 93 ∧ skB 124 q = true) := by rintro ⟨e, _⟩; revert e; decide
 simp only [h, h2, Bool.false_eq_true, if_false, e]
theorem aft_lst {l : List Tm} {T : Tm} {q : List UInt8} (h : skB 93 q = true) : aftL ⟨93, l, false⟩ T q = (some (consL (l ++ [T]) nilT), skR 93 q) := by
 unfold aftL putL
 have e : ¬ ((93 : UInt8) = 125) := by decide
 simp only [h, if_true, wholeL, Op.add, e, if_false, Bool.false_eq_true, hdO]
theorem aft_lst_no {l : List Tm} {T : Tm} {q : List UInt8} (h : skB 93 q = false) (h2 : skB 44 q = false) (h3 : skB 124 q = false) : (aftL ⟨93, l, false⟩ T q).1 = none := by
 unfold aftL putL
 simp only [h, h2, h3, Bool.false_eq_true, if_false, and_false]
theorem aft_bar {l : List Tm} {T : Tm} {q : List UInt8} (h3 : skB 124 q = true) : aftL ⟨93, l, false⟩ T q = rowL ⟨93, l ++ [T], true⟩ (skR 124 q) := by
 have h : skB 93 q = false := skB_ne h3 (by decide)
 have h2 : skB 44 q = false := skB_ne h3 (by decide)
 unfold aftL putL
 simp only [h, h2, h3, Bool.false_eq_true, if_false, and_self, if_true]
theorem bar_end {l : List Tm} {E : Tm} {q : List UInt8} (h : skB 93 q = true) : aftL ⟨93, l, true⟩ E q = (if E.kind = 5 ∨ E.kind = 6 then (none, skR 93 q) else (some (consL l E), skR 93 q)) := by
 unfold aftL putL
 have e : ¬ ((93 : UInt8) = 125) := by decide
 simp only [h, if_true, wholeL, Op.add, e, if_false, List.getLast?_append, List.getLast?_singleton, Option.some_or, List.dropLast_concat]
 by_cases hk : E.kind = 5 ∨ E.kind = 6
 · simp only [hk, if_true, hdO]
 · simp only [hk, if_false, hdO]
theorem bar_no {l : List Tm} {E : Tm} {q : List UInt8} (h : skB 93 q = false) : (aftL ⟨93, l, true⟩ E q).1 = none := by
 unfold aftL putL
 simp only [h, Bool.false_eq_true, if_false, if_true]
theorem drop_skR {c : UInt8} {s : List UInt8} {i : Nat} (h : skB c (s.drop i) = true) : s.drop (i + 1) = skR c (s.drop i) ∧ i < s.length := by
 have e := skR_yes h
 constructor
 · rw [← List.drop_drop, e]
   simp [skR]
 · by_cases hi : i < s.length
   · exact hi
   · rw [List.drop_of_length_le (by omega)] at h
     simp [skB] at h
def preB (t r : List UInt8) : Bool := r.take t.length == t
theorem pre_one (c : UInt8) (r : List UInt8) : preB [c] r = skB c r := by
 unfold preB skB
 cases r with
 | nil => simp
 | cons b t => simp [List.take]
theorem pre_two (c d : UInt8) (r : List UInt8) : preB [c, d] r = (skB c r && skB d (skR c r)) := by
 unfold preB
 cases r with
 | nil => simp [skB]
 | cons b t =>
   cases t with
   | nil =>
     by_cases h : b = c
     · subst h; simp [skB, skR]
     · simp [skB, h]
   | cons e u =>
     by_cases h : b = c
     · subst h; simp [skB, skR]
     · have hb : (b == c) = false := beq_eq_false_iff_ne.2 h
       simp [skB, hb, List.take]
theorem read_row_vd : ∀ (n : Nat) (r : List UInt8), r.length ≤ n → Lib.validD r = true → Lib.validD (readL r).2 = true ∧ ∀ o, okOp o → Lib.validD (rowL o r).2 = true := by
 intro n
 induction n with
 | zero =>
   intro r hr hv
   have : r = [] := List.eq_nil_of_length_eq_zero (by omega)
   subst this
   have e1 : (readL []).1 = none := by kernel_rfl
   have e2 : (readL []).2 = [] := by kernel_rfl
   refine ⟨by rw [e2]; exact hv, fun o _ => ?_⟩
   rw [row_eq, e1]
   show Lib.validD (readL []).2 = true
   rw [e2]; exact hv
 | succ n ih =>
   intro r hr hv
   have h1 : Lib.validD (readL r).2 = true := by
     rw [read_eq]
     have hb := beginL_vd hv
     have hk := (beginL_ok r).1
     have hs := beginL_shr r
     cases hh : (beginL r).1 with
     | lf o => exact hb
     | rw c =>
       rw [hh] at hk hs
       have := hs (by simp [bgH])
       exact (ih _ (by omega) hb).2 _ hk
   refine ⟨h1, fun o ho => ?_⟩
   rw [row_eq]
   cases hp : (readL r).1 with
   | none => exact h1
   | some T =>
     simp only
     have hv2 := putL_vd (T := T) ho h1
     have hok := (putL_ok (o := o) (T := T) (r := (readL r).2) ho).1
     have hs := putL_shr o T (readL r).2
     have hl := readL_le r
     cases hh : (putL o T (readL r).2).1 with
     | no => exact hv2
     | tm U => exact hv2
     | rw o2 =>
       rw [hh] at hok hs
       have := hs.2 (by simp)
       exact (ih _ (by omega) hv2).2 _ hok
theorem read_vd {r : List UInt8} (h : Lib.validD r = true) : Lib.validD (readL r).2 = true := (read_row_vd _ r (Nat.le_refl _) h).1
structure RRf (g : Nat) (s : List UInt8) (i : Nat) (bad : Bool) (n : Nat) (w : World) : Prop where
 at_ : w.heap[g]? = some (.cells #[.string (bs s), .int .i64 (i : Int), .bool bad, .int .i64 (n : Int)] 51 (0, 0))
theorem RRf.cells {g : Nat} {s : List UInt8} {i : Nat} {bad : Bool} {n : Nat} {w : World} (h : RRf g s i bad n w) : w.cell? ⟨g, 0, none⟩ = some (.string (bs s)) ∧ w.cell? ⟨g, 1, none⟩ = some (.int .i64 (i : Int)) ∧ w.cell? ⟨g, 2, none⟩ = some (.bool bad) ∧ w.cell? ⟨g, 3, none⟩ = some (.int .i64 (n : Int)) ∧ w.frozen? ⟨g, 1, none⟩ = false ∧ w.frozen? ⟨g, 2, none⟩ = false ∧ w.frozen? ⟨g, 3, none⟩ = false := by
 have := h.at_
 simp [World.cell?, World.frozen?, this]
theorem RRf.lt {g : Nat} {s : List UInt8} {i : Nat} {bad : Bool} {n : Nat} {w : World} (h : RRf g s i bad n w) : g < w.heap.size := (Array.getElem?_eq_some_iff.1 h.at_).1
theorem RRf.below {g : Nat} {s : List UInt8} {i : Nat} {bad : Bool} {n : Nat} {w w' : World} (h : RRf g s i bad n w) (hb : Below w.heap.size w w') : RRf g s i bad n w' := ⟨(hb.block g h.lt).trans h.at_⟩
theorem RRf.set1 {g : Nat} {s : List UInt8} {i : Nat} {bad : Bool} {n : Nat} {w : World} (h : RRf g s i bad n w) (i' : Nat) : RRf g s i' bad n (w.setCell ⟨g, 1, none⟩ (.int .i64 (i' : Int))) := by
 refine ⟨?_⟩
 have := h.at_
 simp [World.setCell, Array.getElem?_modify, this]
theorem RRf.set2 {g : Nat} {s : List UInt8} {i : Nat} {bad : Bool} {n : Nat} {w : World} (h : RRf g s i bad n w) (b' : Bool) : RRf g s i b' n (w.setCell ⟨g, 2, none⟩ (.bool b')) := by
 refine ⟨?_⟩
 have := h.at_
 simp [World.setCell, Array.getElem?_modify, this]
theorem RRf.set3 {g : Nat} {s : List UInt8} {i : Nat} {bad : Bool} {n : Nat} {w : World} (h : RRf g s i bad n w) (n' : Nat) : RRf g s i bad n' (w.setCell ⟨g, 3, none⟩ (.int .i64 (n' : Int))) := by
 refine ⟨?_⟩
 have := h.at_
 simp [World.setCell, Array.getElem?_modify, this]
theorem bs_ext (s : List UInt8) (i j : Nat) : (bs s).extract i j = bs ((s.drop i).take (j - i)) := by
 apply ByteArray.ext
 simp [bs]
set_option maxHeartbeats 1000000 in
theorem is_bad (g : Nat) (s : List UInt8) (i n : Nat) (t : List UInt8) (w : World) (h : RRf g s i true n w) :
   Calls Tryz.prog 32 #[.pointer (some ⟨g, 0, none⟩), .string (bs t)] w fun e w' => e = .returned (.bool false) ∧ RRf g s i true n w' ∧ Kpt (fun b => b = g) w w' := by
 obtain ⟨y0, y1, y2, y3, f1, f2, f3⟩ := h.cells
 have hH := hid h
 clear h
 go_enter Tryz.func32, Tryz.ntmps32
 go_wp2_with fail
 go_quiet (fail)
 go_wp2
 go_ret
 exact ⟨rfl, hH.out.below (below_drewNv (Below.refl _ _) _), Kpt.of_below (below_drewNv (Below.refl _ _) _)⟩
set_option maxHeartbeats 1000000 in
theorem is_short (g : Nat) (s : List UInt8) (i n : Nat) (t : List UInt8) (hs : s.length ≤ 65536) (hi : i ≤ s.length) (hl : s.length - i < t.length) (w : World) (h : RRf g s i false n w) :
   Calls Tryz.prog 32 #[.pointer (some ⟨g, 0, none⟩), .string (bs t)] w fun e w' => e = .returned (.bool false) ∧ RRf g s i false n w' ∧ Kpt (fun b => b = g) w w' := by
 obtain ⟨y0, y1, y2, y3, f1, f2, f3⟩ := h.cells
 have hH := hid h
 have hsz : (bs s).size = s.length := bs_size s
 have htz : (bs t).size = t.length := bs_size t
 have hlz : ((bs s).size : Int) - (i : Int) < ((bs t).size : Int) := by omega
 have hb1 : (bs s).size ≤ 65536 := by omega
 have hb2 : (i : Int) ≤ 65536 := by omega
 clear h hsz htz
 go_enter Tryz.func32, Tryz.ntmps32
 go_wp2_with fail
 go_quiet (fail)
 go_wp2_with fail
 go_ret
 exact ⟨rfl, hH.out.below (below_drewNv (Below.refl _ _) _), Kpt.of_below (below_drewNv (Below.refl _ _) _)⟩
end Go.Proofs.YtlojfmlaookpmaaGreatDoor
namespace Go.Proofs.YtlojfmlaookpmaaGreatDoor
open Go.ChangeShapes Go.WideShapes Go.ChangeAt Go.RowKit
set_option maxHeartbeats 4000000 in
theorem rmul_w (va vb : Value) (X Y : Int) (K : Nat) (w : World) (hK : K ≤ 1000000) (ha : IsN va X K w) (hb : IsN vb Y K w) :
   Calls Tryz.prog 64 #[va, vb] w fun e w' => ∃ v', e = .returned (.tuple #[v', .bool (mulOk X Y)]) ∧ IsC v' (if mulOk X Y then X * Y else 0) 128 w' ∧ Below w.heap.size w w' := by
 have hA : ∀ w', Below w.heap.size w w' → IsN va X K w' := fun w' hw => ha.below hw
 have hB : ∀ w', Below w.heap.size w w' → IsN vb Y K w' := fun w' hw => hb.below hw
 obtain ⟨na, oa, la, ca, rfl, hLa, hca, hma, hsa, hka⟩ := ha
 obtain ⟨nb, ob, lb, cb, rfl, hLb, hcb, hmb, hsb, hkb⟩ := hb
 clear hsa hsb hma hmb hLa hLb hca hcb hka hkb
 obtain ⟨kA, kB, kC, hB0, hz0⟩ := boxes3 w (.bool na) (.slice oa la.length ca) (.bool nb) (.slice ob lb.length cb) (.bool false) (.slice none 0 0) 68 68 68
 obtain ⟨Z, hZ⟩ : ∃ Z, (if mulOk X Y then X * Y else 0) = Z := ⟨_, rfl⟩
 obtain ⟨ok, hok⟩ : ∃ ok, mulOk X Y = ok := ⟨_, rfl⟩
 rw [hZ]
 have hZ' := hid hZ
 rw [hok]
 have hok' := hid hok
 unfold mulOk at hok'
 clear hZ hok
 go_enter Tryz.func64, Tryz.ntmps64
 go_wp2
 generalize (((w.alloc (.cells #[.bool na, .slice oa la.length ca] 68)).alloc (.cells #[.bool nb, .slice ob lb.length cb] 68)).alloc (.cells #[.bool false, .slice none 0 0] 68)) = W0 at *
 obtain ⟨f1, f2, f3, f4⟩ := id kA
 obtain ⟨f5, f6, f7, f8⟩ := id kB
 go_cut [] from 13 to 16 (fun wx => Two X Y K w wx ∧ After w W0 wx)
 case first =>
   go_region_with (first
       | (go_at_call_of 67 oa
          refine (rnorm_w _ X K _ (by omega) (hA _ hB0.drew)).mono ?_
          rintro e w1 ⟨s1, rfl, hF1, q1, b1'⟩
          have b1 : Below W0.heap.size W0 w1 := ((Below.refl _ W0).drew).trans b1'
          clear b1'
          obtain ⟨o1, c1, rfl, L1, z1, _⟩ := hF1.parts
          have hB1 : Below w.heap.size w w1 := below_and hB0 (Nat.le_refl _) b1
          have hz1 := b1.size
          obtain ⟨p1, p2, p3, p4⟩ := kA.below b1 (by omega)
          obtain ⟨p5, p6, p7, p8⟩ := kB.below b1 (by omega))
       | (go_at_call_of 67 ob
          refine (rnorm_w _ Y K _ (by omega) (hB _ hB1)).mono ?_
          rintro e w2 ⟨s2, rfl, hF2, q2, b2'⟩
          have b2 : Below W0.heap.size W0 w2 := below_and b1 (Nat.le_refl _) b2'
          have L1' := L1.below b2'
          clear b2' p1 p2 p3 p4 p5 p6 p7 p8
          obtain ⟨o2, c2, rfl, L2, z2, _⟩ := hF2.parts
          have kA2 := kA.below b2 (by omega)
          have kB2 := kB.below b2 (by omega)
          obtain ⟨p1, p2, p3, p4⟩ := id kA2
          obtain ⟨p5, p6, p7, p8⟩ := id kB2))
   all_goals (go_wp2_with fail; go_meet)
   all_goals (have hAf := after_put (a0 := .bool (decide (X < 0))) (a1 := .slice o1 (glim 4294967296 X.natAbs).length c1) (b0 := .bool (decide (Y < 0))) (b1 := .slice o2 (glim 4294967296 Y.natAbs).length c2) hB0 (by omega) b2; exact ⟨⟨o1, c1, o2, c2, (boxes_put kA kB (by omega) b2).1, (boxes_put kA kB (by omega) b2).2, (L1'.box kA2 _ _).box (kB2.far (by omega)) _ _, (L2.box kA2 _ _).box (kB2.far (by omega)) _ _, z1, z2, q1, q2⟩, hAf⟩)
 case rest =>
   obtain ⟨⟨o1, c1, o2, c2, kA', kB', L1, L2, z1, z2, q1, q2⟩, hAf⟩ := hcut
   have kC' := hAf.1 _ _ _ (by omega) (by omega) kC
   have hsz := hAf.2.1
   have hBx := hAf.2.2
   clear hAf kA kB kC f1 f2 f3 f4 f5 f6 f7 f8 hB0 hA hB
   obtain ⟨f1, f2, f3, f4⟩ := id kA'
   obtain ⟨f5, f6, f7, f8⟩ := id kB'
   obtain ⟨e1, e2, e3, e4⟩ := id kC'
   by_cases h1 : (glim 4294967296 X.natAbs).length ≤ 128
   · have h1z : ¬ (128 : Int) < ((glim 4294967296 X.natAbs).length : Int) := by omega
     by_cases h2 : (glim 4294967296 Y.natAbs).length ≤ 128
     · have h2z : ¬ (128 : Int) < ((glim 4294967296 Y.natAbs).length : Int) := by omega
       have hsv := sv_mul X Y
       have hvX := gval_glim (b := 4294967296) (by omega) X.natAbs
       have hvY := gval_glim (b := 4294967296) (by omega) Y.natAbs
       have ma := lm_glim (b := 4294967296) (by omega) X.natAbs
       have mb := lm_glim (b := 4294967296) (by omega) Y.natAbs
       obtain ⟨A, hA⟩ : ∃ A, glim 4294967296 X.natAbs = A := ⟨_, rfl⟩
       obtain ⟨B, hB⟩ : ∃ B, glim 4294967296 Y.natAbs = B := ⟨_, rfl⟩
       rw [hA] at hvX ma kA' L1 z1 q1 h1 h1z f2
       rw [hB] at hvY mb kB' L2 z2 q2 h2 h2z f6
       have hAl : ln X = A.length := by unfold ln; rw [hA]
       have hBl : ln Y = B.length := by unfold ln; rw [hB]
       have hvX' := hid hvX
       have hvY' := hid hvY
       have hsv' := hid hsv
       have hAl' := hid hAl
       have hBl' := hid hBl
       clear hvX hvY hsv hAl hBl hA hB
       have hmk := run_make_row' (P := Tryz.prog) 23 133 (.int .u32 0) 4 Tryz.underlying23 info32u rfl .i64 .i64 (A.length + B.length) (by omega) (by omega) wc
       rw [show (((A.length + B.length : Nat)) : Int) = (A.length : Int) + (B.length : Int) by omega] at hmk
       have hOwn := Own.made (A.length + B.length) wc
       have hB1 : Below wc.heap.size wc (wc.alloc (.cells (madeCells #[.int .u32 0] (A.length + B.length)) 133)) := (Below.refl _ wc).alloc (Nat.le_refl _) _
       have hg1 : wc.heap.size < (wc.alloc (.cells (madeCells #[.int .u32 0] (A.length + B.length)) 133)).heap.size := by simp
       go_wp2
       generalize wc.alloc (.cells (madeCells #[.int .u32 0] (A.length + B.length)) 133) = W1 at *
       clear hmk f1 f2 f3 f4 f5 f6 f7 f8 e1 e2 e3 e4
       go_loopw [8] (fun i wr => ∃ (k : Nat) (L : List Nat), i = .int .i64 (k : Int) ∧ k ≤ A.length ∧ Own wc.heap.size L wr ∧ wc.heap.size < wr.heap.size ∧ L.length = A.length + B.length ∧ Lm 4294967296 L ∧ Below wc.heap.size wc wr ∧ Hid (gval 4294967296 L = gval 4294967296 (A.take k) * gval 4294967296 B) ∧ Hid (∀ j, k + B.length ≤ j → j < L.length → L[j]? = some 0)) (fun i _ => A.length - (intOf i).toNat)
       case atStart =>
         refine ⟨0, _, rfl, by omega, hOwn, hg1, by simp, Lm.replicate (by omega) _, hB1, hid ?_, hid fun j _ hj => ?_⟩
         · rw [gval_zeros _ _ (fun x hx => (List.mem_replicate.1 hx).2)]; simp [gval]
         · simp at hj; simp [hj]
       case round =>
         obtain ⟨k, L0, rfl, hk, hL0, hg0, hLl0, hLm0, hbw0, hG0, hZ0⟩ := hrel
         clear hOwn hB1 hg1
         obtain ⟨f1, f2, f3, f4⟩ := kA'.below hbw0 (by omega)
         obtain ⟨f5, f6, f7, f8⟩ := kB'.below hbw0 (by omega)
         by_cases hkA : k < A.length
         · have h1y : (k : Int) < (A.length : Int) := by omega
           obtain ⟨x, hx⟩ : ∃ x, A[k]? = some x := ⟨A[k], by simp [hkA]⟩
           have hxm := ma.at hx
           go_wp2
           clear f1 f2 f3 f4 f5 f6 f7 f8
           go_loopw [9, 10] (fun c j wr => ∃ (q cn : Nat) (L : List Nat), c = .int .u64 (cn : Int) ∧ j = .int .i64 (q : Int) ∧ q ≤ B.length ∧ cn < 4294967296 ∧ Own wc.heap.size L wr ∧ wc.heap.size < wr.heap.size ∧ L.length = A.length + B.length ∧ Lm 4294967296 L ∧ Below wc.heap.size wc wr ∧ Hid (gval 4294967296 L + 4294967296 ^ (k + q) * cn = gval 4294967296 L0 + 4294967296 ^ k * (x * gval 4294967296 (B.take q))) ∧ Hid (∀ j, k + B.length ≤ j → j < L.length → L[j]? = some 0)) (fun _ j _ => B.length - (intOf j).toNat)
           case atStart => exact ⟨0, 0, L0, rfl, rfl, by omega, by omega, hL0, hg0, hLl0, hLm0, hbw0, hid (by simp [gval]), hZ0⟩
           case round =>
             obtain ⟨q, cn, L, rfl, rfl, hq, hcn, hL, hg, hLl, hLm, hbw, hH, hZ⟩ := hrel
             obtain ⟨f1, f2, f3, f4⟩ := kA'.below hbw (by omega)
             obtain ⟨f5, f6, f7, f8⟩ := kB'.below hbw (by omega)
             by_cases hqB : q < B.length
             · have h2y : (q : Int) < (B.length : Int) := by omega
               obtain ⟨y, hy⟩ : ∃ y, B[q]? = some y := ⟨B[q], by simp [hqB]⟩
               obtain ⟨a, rfl, cx⟩ := (L1.below hbw) k x hx
               obtain ⟨b, rfl, cy⟩ := (L2.below hbw) q y hy
               have hym := mb.at hy
               obtain ⟨t, ht⟩ : ∃ t, k + q = t := ⟨_, rfl⟩
               have htz : (k : Int) + (q : Int) = (t : Int) := by omega
               have htl : (t : Int) < ((A.length + B.length : Nat) : Int) := by omega
               obtain ⟨old, hold⟩ : ∃ old, L[t]? = some old := ⟨L[t]'(by omega), by simp⟩
               have cL := hL.1 t old hold
               have fL := hL.2 t
               have hom := hLm.at hold
               obtain ⟨p, hp⟩ : ∃ p, x * y = p := ⟨_, rfl⟩
               have hpm : p ≤ 18446744065119617025 := by rw [← hp]; exact Nat.mul_le_mul (by omega : x ≤ 4294967295) (by omega : y ≤ 4294967295)
               have hpz : (x : Int) * (y : Int) = (p : Int) := (Int.natCast_mul x y).symm.trans (congrArg (fun n : Nat => (n : Int)) hp)
               obtain ⟨s, hs⟩ : ∃ s, cn + (p + old) = s := ⟨_, rfl⟩
               have w0 : IntKind.u64.wrap (x : Int) = (x : Int) := by rw [IntKind.wrap_u64]; omega
               have w0' : IntKind.u64.wrap (y : Int) = (y : Int) := by rw [IntKind.wrap_u64]; omega
               have w0'' : IntKind.u64.wrap (old : Int) = (old : Int) := by rw [IntKind.wrap_u64]; omega
               have w1 : IntKind.u64.wrap (p : Int) = (p : Int) := by rw [IntKind.wrap_u64]; omega
               have w2 : IntKind.u64.wrap ((p : Int) + (old : Int)) = (p : Int) + (old : Int) := by rw [IntKind.wrap_u64]; omega
               have w3 : IntKind.u64.wrap ((p : Int) + (old : Int) + (cn : Int)) = (s : Int) := by rw [IntKind.wrap_u64]; omega
               have w4 : IntKind.u32.wrap (s : Int) = ((s % 4294967296 : Nat) : Int) := by rw [IntKind.wrap_u32]; omega
               have hH2 := hH.out
               rw [ht] at hH2
               have hs2 : cn + (x * y + old) = s := by rw [hp]; exact hs
               have hstep := hid (mul_step hs2 (gval_set 4294967296 (s % 4294967296) hold) hH2)
               clear hH2 hs2
               have hp' := hid hp
               have hs' := hid hs
               have ht' := hid ht
               clear hp hs ht
               go_wp2
               go_quiet (fail)
               have hD := below_drewNv (Below.refl wr.heap.size wr) nq
               have hbq := below_and hbw (Nat.le_refl _) hD
               have hLq := hL.below hD hg
               have hgq : wc.heap.size < (wr.drewN nq).heap.size := Nat.lt_of_lt_of_le hg hD.size
               clear cx cy cL fL f1 f2 f3 f4 f5 f6 f7 f8 hbw hL hD hg
               generalize wr.drewN nq = wq at *
               have cL := hLq.1 t old hold
               have fL := hLq.2 t
               go_wp2
               go_roundw
               case rel =>
                 have hsm : s ≤ 18446744073709551615 := by have := hs'.out; omega
                 have ht := ht'.out
                 refine ⟨q + 1, s / 4294967296, L.set t (s % 4294967296), by congr 1, by go_num, by omega, by omega, hLq.set _ (by omega), by simpa using hgq, by simp [hLl], hLm.set _ _ (Nat.mod_lt _ (by omega)), hbq.setCell (Nat.le_refl _) _, hid ?_, hid fun j hj hjl => ?_⟩
                 · rw [show k + (q + 1) = t + 1 by omega, pow_step, gval_take_succ _ hy, hstep.out, Nat.mul_add, Nat.mul_add, ← ht, mul_tail]
                 · rw [List.getElem?_set_ne (by omega)]
                   exact hZ.out j hj (by simpa using hjl)
               case measure => simp [intOf]; omega
             · have h2y : ¬ (q : Int) < (B.length : Int) := by omega
               have hqe : q = B.length := by omega
               subst hqe
               obtain ⟨t, ht⟩ : ∃ t, k + B.length = t := ⟨_, rfl⟩
               have htz : (k : Int) + (B.length : Int) = (t : Int) := by omega
               have htl : (t : Int) < ((A.length + B.length : Nat) : Int) := by omega
               have hold := hZ.out t (by omega) (by omega)
               have cL := hL.1 t 0 hold
               have fL := hL.2 t
               have w3 : IntKind.u32.wrap (cn : Int) = (cn : Int) := by rw [IntKind.wrap_u32]; omega
               have ht' := hid ht
               have hold' := hid hold
               clear ht hold
               go_wp2
               go_roundw
               case rel =>
                 have ht := ht'.out
                 refine ⟨k + 1, L.set t cn, by go_num, by omega, hL.set _ (by omega), by simpa using hg, by simp [hLl], hLm.set _ _ hcn, hbw.setCell (Nat.le_refl _) _, hid ?_, hid fun j hj hjl => ?_⟩
                 · have e := gval_set 4294967296 cn hold'.out
                   have hh := hH.out
                   rw [ht, List.take_length, hG0.out] at hh
                   rw [gval_take_succ _ hx, Nat.add_mul]
                   have e2 : 4294967296 ^ k * (x * gval 4294967296 B) = 4294967296 ^ k * x * gval 4294967296 B := by rw [Nat.mul_assoc]
                   omega
                 · rw [List.getElem?_set_ne (by omega)]
                   exact hZ.out j (by omega) (by simpa using hjl)
               case measure => simp [intOf]; omega
         · have h1y : ¬ (k : Int) < (A.length : Int) := by omega
           have hke : k = A.length := by omega
           subst hke
           have hgv := hG0.out
           rw [List.take_length, hvX'.out, hvY'.out] at hgv
           have hN := own_isN (K := 256) (decide (X < 0) != decide (Y < 0)) hL0 hLm0 hgv (by omega)
           rw [hsv'.out, hLl0] at hN
           have hBw := below_and hBx (Nat.le_refl _) hbw0
           have kC0 := kC'.below hbw0 (by omega)
           clear hgv hG0 hZ0
           go_wp2_with fail
           refine (rnorm_w _ (X * Y) 256 _ (by omega) hN).mono ?_
           rintro e w4 ⟨s4, rfl, hF4, hk4, b4⟩
           obtain ⟨o4, c4, rfl, L4, z4, _⟩ := hF4.parts
           have kC4 := kC0.below b4 (by omega)
           have hBw4 := below_and hBw (Nat.le_refl _) b4
           have s4 := b4.size
           obtain ⟨kN, hBN, hzN⟩ := newbox w4 (.bool (decide (X * Y < 0))) (.slice o4 (glim 4294967296 (X * Y).natAbs).length c4) 68
           have kC5 := kC4.below hBN (by omega)
           have hBw5 := below_and hBw4 (Nat.le_refl _) hBN
           have L5 := L4.below hBN
           clear f1 f2 f3 f4 f5 f6 f7 f8
           obtain ⟨e1, e2, e3, e4⟩ := id kC5
           obtain ⟨e5, e6, e7, e8⟩ := id kN
           obtain ⟨e9, e10, e11, e12⟩ := id kC4
           have hAl := hAl'.out
           have hBl := hBl'.out
           by_cases h3 : (glim 4294967296 (X * Y).natAbs).length ≤ 128
           · have h3z : ¬ (128 : Int) < ((glim 4294967296 (X * Y).natAbs).length : Int) := by omega
             have hf : ok = true := by rw [← hok'.out, hAl, hBl]; unfold ln; simp; omega
             have hZ0 : Z = X * Y := by rw [← hZ'.out]; unfold mulOk; rw [hAl, hBl]; unfold ln; rw [if_pos (by simp; omega)]
             subst hf hZ0
             clear hok' hZ' hAl hBl
             go_wp2
             refine bodyPost_ret (v := .tuple #[.agg #[.bool (decide (X * Y < 0)), .slice o4 (glim 4294967296 (X * Y).natAbs).length c4], .bool true]) (by simp [results, Tryz.results64, go_sem, e1, e2]) rfl ⟨_, rfl, ?_, ?_⟩
             · exact (show IsC _ (X * Y) _ _ from ⟨o4, c4, rfl, L5, z4, h3⟩).box kC5
             · exact (hBw5.setCell (p := ⟨w.heap.size + 1 + 1, 0, none⟩) (by simp; omega) _).setCell (p := ⟨w.heap.size + 1 + 1, 1, none⟩) (by simp; omega) _
           · have h3z : (128 : Int) < ((glim 4294967296 (X * Y).natAbs).length : Int) := by omega
             have hf : ok = false := by rw [← hok'.out, hAl, hBl]; unfold ln; simp; omega
             have hZ0 : Z = 0 := by rw [← hZ'.out]; unfold mulOk; rw [hAl, hBl]; unfold ln; rw [if_neg (by simp; omega)]
             subst hf hZ0
             clear hok' hZ' hAl hBl
             go_wp2
             refine bodyPost_ret (v := .tuple #[.agg #[.bool false, .slice none 0 0], .bool false]) (by simp [results, Tryz.results64, go_sem, e1, e2]) rfl ⟨_, rfl, isC_zero _ _, ?_⟩
             exact (hBw5.setCell (p := ⟨w.heap.size + 1 + 1, 0, none⟩) (by simp; omega) _).setCell (p := ⟨w.heap.size + 1 + 1, 1, none⟩) (by simp; omega) _
     · have h2z : (128 : Int) < ((glim 4294967296 Y.natAbs).length : Int) := by omega
       have hf : ok = false := by rw [← hok'.out]; unfold ln; simp; omega
       have hZ0 : Z = 0 := by rw [← hZ'.out]; unfold mulOk ln; rw [if_neg (by simp; omega)]
       subst hf hZ0
       clear hok' hZ'
       go_wp2
       refine bodyPost_ret (v := .tuple #[.agg #[.bool false, .slice none 0 0], .bool false]) (by simp [results, Tryz.results64, go_sem, e1, e2]) rfl ⟨_, rfl, isC_zero _ _, ?_⟩
       exact (hBx.setCell (p := ⟨w.heap.size + 1 + 1, 0, none⟩) (by simp; omega) _).setCell (p := ⟨w.heap.size + 1 + 1, 1, none⟩) (by simp; omega) _
   · have h1z : (128 : Int) < ((glim 4294967296 X.natAbs).length : Int) := by omega
     have hf : ok = false := by rw [← hok'.out]; unfold ln; simp; omega
     have hZ0 : Z = 0 := by rw [← hZ'.out]; unfold mulOk ln; rw [if_neg (by simp; omega)]
     subst hf hZ0
     clear hok' hZ'
     go_wp2
     refine bodyPost_ret (v := .tuple #[.agg #[.bool false, .slice none 0 0], .bool false]) (by simp [results, Tryz.results64, go_sem, e1, e2]) rfl ⟨_, rfl, isC_zero _ _, ?_⟩
     exact (hBx.setCell (p := ⟨w.heap.size + 1 + 1, 0, none⟩) (by simp; omega) _).setCell (p := ⟨w.heap.size + 1 + 1, 1, none⟩) (by simp; omega) _
theorem ten_lt {j : Nat} (h : j ≤ 620) : (10 : Nat) ^ j < 4294967296 ^ 65 := by
 obtain ⟨k, hk⟩ : ∃ k, k = 20 := ⟨_, rfl⟩
 have h1 : (10 : Nat) ^ j ≤ 10 ^ (31 * k) := Nat.pow_le_pow_right (by omega) (by omega)
 rw [Nat.pow_mul] at h1
 have h2 : ((10 : Nat) ^ 31) ^ k < (2 ^ 104) ^ k := Nat.pow_lt_pow_left (by decide) (by omega)
 have h3 : (4294967296 : Nat) ^ 65 = (2 ^ 104) ^ k := by
   subst hk
   rw [show (4294967296 : Nat) = 2 ^ 32 by decide, ← Nat.pow_mul]
 rw [h3]
 exact Nat.lt_of_le_of_lt h1 h2
theorem digs_lt {d : List UInt8} {j : Nat} (hj : j ≤ d.length) (h620 : d.length ≤ 620) (hdg : isDigs d = true) : pval (d.take j) < 4294967296 ^ 65 := by
 have hl : (d.take j).length = j := by rw [List.length_take]; omega
 exact Nat.lt_trans (pval_lt j (d.take j) hl (isDigs_take hdg j)) (ten_lt (Nat.le_trans hj h620))
theorem digs_mul {V : Nat} (h : V < 4294967296 ^ 65) : mulOk (V : Int) 10 = true := mulOk_of (a := 65) (b := 1) (by rw [Int.natAbs_natCast]; exact h) (by decide) (by decide)
theorem digs_len {V : Nat} (h : V < 4294967296 ^ 65) : (glim 4294967296 ((V : Int).natAbs)).length ≤ 66 := Nat.le_trans ((glim_len (by decide) _ 65).2 (by rw [Int.natAbs_natCast]; exact h)) (by decide)
theorem digs_all {d : List UInt8} {j : Nat} (hj : j < d.length) (h620 : d.length ≤ 620) (hdg : isDigs d = true) :
   ∃ (x : UInt8) (n0 nx V V1 : Nat), d[j]? = some x ∧ x.toNat = nx ∧ nx = n0 + 48 ∧ n0 ≤ 9 ∧ pval (d.take j) = V ∧ pval (d.take (j + 1)) = V1 ∧ V1 = V * 10 + n0 ∧ mulOk (V : Int) 10 = true ∧ (glim 4294967296 ((V1 : Int).natAbs)).length ≤ 66 := by
 have hx : d[j]? = some d[j] := by simp
 have hxd : 48 ≤ (d[j]).toNat ∧ (d[j]).toNat ≤ 57 := by
   have := hdg
   unfold isDigs at this
   have h2 := List.all_eq_true.1 this d[j] (List.mem_of_getElem? hx)
   simpa using h2
 refine ⟨d[j], (d[j]).toNat - 48, (d[j]).toNat, _, _, hx, rfl, by omega, by omega, rfl, rfl, ?_, digs_mul (digs_lt (Nat.le_of_lt hj) h620 hdg), digs_len (digs_lt hj h620 hdg)⟩
 rw [List.take_add_one, hx]
 exact pval_snoc _ _
theorem idx_run (d : List UInt8) (k : Nat) (x : UInt8) (h : d[k]? = some x) (w : World) : (Instr.index 9 (.string ⟨d.toArray⟩) (.int .i64 (k : Int))).run Tryz.prog w = .ok (.int .u8 (x.toNat : Int)) w := by
 have hk : k < d.length := (List.getElem?_eq_some_iff.1 h).1
 have hx : d[k] = x := (List.getElem?_eq_some_iff.1 h).2
 have hsz : (⟨d.toArray⟩ : ByteArray).size = d.length := by simp [ByteArray.size]
 rw [run_index_string (P := Tryz.prog) w 9 ⟨d.toArray⟩ .i64 (k : Int) Tryz.underlying9]
 rw [dif_pos ⟨by omega, by rw [hsz]; omega⟩]
 congr 2
 have : ∀ (j : Nat) (hj : j < (⟨d.toArray⟩ : ByteArray).size), j = k → (⟨d.toArray⟩ : ByteArray)[j]'hj = x := fun j hj e => by subst e; exact hx
 rw [this _ _ (by omega)]
theorem idx0_run (x : UInt8) (t : List UInt8) (w : World) : (Instr.index 9 (.string ⟨(x :: t).toArray⟩) (.int .i64 0)).run Tryz.prog w = .ok (.int .u8 (x.toNat : Int)) w := idx_run (x :: t) 0 x rfl w
theorem tail_run (x : UInt8) (t : List UInt8) (w : World) : (Instr.slice 9 (.string ⟨(x :: t).toArray⟩) (some (.int .i64 1)) none none).run Tryz.prog w = .ok (.string ⟨t.toArray⟩) w := by
 have hsz : (⟨(x :: t).toArray⟩ : ByteArray).size = t.length + 1 := by simp [ByteArray.size]
 rw [run_slice_string_from_if (P := Tryz.prog) w 9 ⟨(x :: t).toArray⟩ .i64 1 Tryz.underlying9]
 rw [if_pos ⟨by omega, by rw [hsz]; omega⟩]
 congr 2
 apply ByteArray.ext
 rw [ByteArray.data_extract]
 apply Array.toList_inj.1
 rw [Array.toList_extract, List.extract_eq_take_drop, hsz]
 simp
theorem foldl_ge : ∀ (u : List UInt8) (a : Nat), a ≤ u.foldl (fun n x => n * 10 + (x.toNat - 48)) a
 | [], a => Nat.le_refl _
 | x :: u, a => Nat.le_trans (show a ≤ a * 10 + (x.toNat - 48) by omega) (foldl_ge u _)
theorem pval_pos {y : UInt8} {u : List UInt8} (h : 48 < y.toNat) : 0 < pval (y :: u) := by
 have := foldl_ge u (0 * 10 + (y.toNat - 48))
 unfold pval
 rw [List.foldl_cons]
 omega
theorem okNum_of {d : List UInt8} (h : isDigs d = true) : okNum d = (d == [48] || (d != [] && d.head? != some 48)) := by unfold okNum; rw [h]; rfl
theorem IsC.cutLen {v : Value} {Z : Int} {K k : Nat} {w : World} (h : IsC v Z K w) (hk : (glim 4294967296 Z.natAbs).length ≤ k) : IsC v Z k w := by
 obtain ⟨o, c, rfl, hL, hc, _⟩ := h
 exact ⟨o, c, rfl, hL, hc, hk⟩
theorem low_a {n : Nat} (h : n ≤ 9) : -9223372036854775808 ≤ (n : Int) := by omega
theorem low_b {n : Nat} (h : n ≤ 9) : (n : Int) < 9223372036854775808 := by omega
theorem low_w1 {nx n0 : Nat} (h : nx = n0 + 48) (h9 : n0 ≤ 9) : IntKind.u8.wrap ((nx : Int) - 48) = (n0 : Int) := by rw [IntKind.wrap_u8]; omega
theorem low_w2 {n0 : Nat} (h9 : n0 ≤ 9) : IntKind.i64.wrap (n0 : Int) = (n0 : Int) := by rw [IntKind.wrap_i64]; omega
theorem low_w3 {n0 : Nat} (h9 : n0 ≤ 9) : wrap64 (n0 : Int) = (n0 : Int) := by unfold wrap64; omega
theorem low_wj {j : Nat} (h : j ≤ 1000000) : wrap64 ((j : Int) + 1) = (j : Int) + 1 := by unfold wrap64; omega
theorem size_mk (d : List UInt8) : (⟨d.toArray⟩ : ByteArray).size = d.length := by simp [ByteArray.size]
set_option maxRecDepth 4000 in
set_option maxHeartbeats 2000000 in
theorem rparse_w (l : List UInt8) (w : World) (hs : l.length ≤ 1000000) :
   Calls Tryz.prog 30 #[.string ⟨l.toArray⟩] w fun e w' => ∃ v', e = .returned (.tuple #[v', .int .i64 (pE l)]) ∧ IsC v' (pZ l) 64 w' ∧ Below w.heap.size w w' := by
 obtain ⟨Er, hEr⟩ : ∃ Er, pE l = Er := ⟨_, rfl⟩
 obtain ⟨Z, hZ⟩ : ∃ Z, pZ l = Z := ⟨_, rfl⟩
 rw [hEr, hZ]
 have hEr' := hid hEr
 have hZ' := hid hZ
 unfold pE at hEr'
 unfold pZ at hZ'
 rw [hEr] at hZ'
 clear hEr hZ
 have hdl : (pdig l).length ≤ l.length := by
   unfold pdig Lib.trimPrefix
   split
   · rw [List.length_drop]; omega
   · omega
 unfold pok at hEr'
 obtain ⟨d, hd⟩ : ∃ d, pdig l = d := ⟨_, rfl⟩
 obtain ⟨ng, hng⟩ : ∃ ng, pneg l = ng := ⟨_, rfl⟩
 rw [hd, hng] at hEr' hZ'
 rw [hd] at hdl
 have hd' := hid hd
 have hng' := hid hng
 clear hd hng
 obtain ⟨kR, hB0, hz0⟩ := newbox w (.bool false) (.slice none 0 0) 68
 obtain ⟨r1, r2, r3, r4⟩ := id kR
 have hsz := size_mk
 go_enter Tryz.func30, Tryz.ntmps30
 go_upto_region 1 with fail
 generalize (w.alloc (.cells #[.bool false, .slice none 0 0] 68)) = W0 at *
 go_cut [4] from 10 to 17 (fun nv wx => nv = .bool ng ∧ wx = W0)
 case first =>
   cases l with
   | nil =>
     have hn : ng = false := by rw [← hng'.out]; rfl
     subst hn
     go_wp2
     go_meet
     exact ⟨rfl, rfl⟩
   | cons x t =>
     have hx0 := idx0_run x t
     have hl0 : (0 : Int) < ((x :: t).length : Int) := by simp
     obtain ⟨n, hn⟩ : ∃ n, x.toNat = n := ⟨_, rfl⟩
     have hnx : ((n : Int) == 45) = ng := by
       rw [← hng'.out, ← hn]
       have h45 : (45 : UInt8).toNat = 45 := rfl
       by_cases hx : x = 45
       · subst hx; simp [pneg, Lib.hasPrefix]
       · have h1 : (pneg (x :: t)) = false := by
           cases h : pneg (x :: t) with
           | false => rfl
           | true => simp [pneg, Lib.hasPrefix] at h; first | exact absurd h hx | exact absurd h.symm hx
         rw [h1]
         simp only [beq_eq_false_iff_ne, ne_eq]
         intro e
         exact hx (UInt8.toNat_inj.1 (by omega))
     rw [hn] at hx0
     clear hn hng' hd'
     generalize x :: t = l at *
     go_wp2
     go_meet
     exact ⟨rfl, rfl⟩
 case rest =>
   obtain ⟨rfl, rfl⟩ := hcut
   go_upto_if 18 with fail
   go_cut [0] from 19 to 20 (fun sv wx => sv = .string ⟨d.toArray⟩ ∧ wx = wc)
   case first =>
     cases ng with
     | false =>
       have hd : d = l := by
         rw [← hd'.out]
         have h1 := hng'.out
         unfold pneg at h1
         unfold pdig Lib.trimPrefix
         rw [h1]; rfl
       subst hd
       go_wp2
       go_meet
       exact ⟨rfl, rfl⟩
     | true =>
       have h1 := hng'.out
       have h2 := hd'.out
       unfold pneg at h1
       unfold pdig Lib.trimPrefix at h2
       rw [h1, if_pos rfl] at h2
       cases l with
       | nil => simp [Lib.hasPrefix] at h1
       | cons x t =>
         have hd : t = d := by simpa using h2
         subst hd
         have htr := tail_run x t
         clear h1 h2 hd' hng'
         generalize x :: t = l at *
         go_wp2
         go_meet
         exact ⟨rfl, rfl⟩
   case rest =>
     obtain ⟨rfl, rfl⟩ := hcut
     clear hd' hng'
     go_wp2
     go_loopw [5] (fun iv wr => ∃ k : Nat, iv = .int .i64 (k : Int) ∧ k ≤ d.length ∧ wr = wc ∧ Hid (isDigs (d.take k) = true)) (fun iv _ => d.length - (intOf iv).toNat)
     case atStart => exact ⟨0, rfl, by omega, rfl, hid (by simp [isDigs])⟩
     case round =>
       obtain ⟨k, rfl, hk, rfl, hH⟩ := hrel
       by_cases h1 : k < d.length
       · have h1z : (k : Int) < (d.length : Int) := by omega
         obtain ⟨x, hx⟩ : ∃ x, d[k]? = some x := ⟨d[k], by simp [h1]⟩
         have hix := idx_run d k x hx
         obtain ⟨n, hn⟩ : ∃ n, x.toNat = n := ⟨_, rfl⟩
         rw [hn] at hix
         by_cases hdg : 48 ≤ n ∧ n ≤ 57
         · have h2 : ¬ (n : Int) < 48 := by omega
           have h3 : ¬ (57 : Int) < (n : Int) := by omega
           have hH2 : Hid (isDigs (d.take (k + 1)) = true) := hid (by
             have := hH.out
             unfold isDigs at this ⊢
             rw [List.take_add_one, hx, List.all_append, this]
             simp
             omega)
           clear hn hx hdg
           go_wp2
           go_roundw
           case rel => exact ⟨k + 1, by go_num, by omega, trivial, hH2⟩
           case measure => simp [intOf]; omega
         · have hbad : okNum d = false := by
             unfold okNum
             rw [isDigs_at hx (by rw [hn]; exact hdg)]; rfl
           by_cases h2 : n < 48
           · have h2z : (n : Int) < 48 := by omega
             clear hn hx hdg
             have hE : Er = 10 := by rw [← hEr'.out, if_neg (by rw [hbad]; simp)]
             have hZ0 : Z = 0 := by rw [← hZ'.out, hE]; rfl
             subst hE hZ0
             clear hEr' hZ'
             go_wp2
             refine bodyPost_ret (v := .tuple #[.agg #[.bool false, .slice none 0 0], .int .i64 10]) (by simp [results, Tryz.results30, go_sem, r1, r2]) rfl ⟨_, rfl, isC_zero _ _, ?_⟩
             exact (hB0.setCell (p := ⟨w.heap.size, 0, none⟩) (by simp) _).setCell (p := ⟨w.heap.size, 1, none⟩) (by simp) _
           · have h2z : ¬ (n : Int) < 48 := by omega
             have h3 : (57 : Int) < (n : Int) := by omega
             clear hn hx hdg
             have hE : Er = 10 := by rw [← hEr'.out, if_neg (by rw [hbad]; simp)]
             have hZ0 : Z = 0 := by rw [← hZ'.out, hE]; rfl
             subst hE hZ0
             clear hEr' hZ'
             go_wp2
             refine bodyPost_ret (v := .tuple #[.agg #[.bool false, .slice none 0 0], .int .i64 10]) (by simp [results, Tryz.results30, go_sem, r1, r2]) rfl ⟨_, rfl, isC_zero _ _, ?_⟩
             exact (hB0.setCell (p := ⟨w.heap.size, 0, none⟩) (by simp) _).setCell (p := ⟨w.heap.size, 1, none⟩) (by simp) _
       · have h1z : ¬ (k : Int) < (d.length : Int) := by omega
         have hke : k = d.length := by omega
         have hdg : isDigs d = true := by have := hH.out; rwa [hke, List.take_length] at this
         have hok := okNum_of hdg
         clear hH hke
         go_upto_region 9 with fail
         obtain ⟨ok, hokd⟩ : ∃ ok, (okNum d && !(ng && d == [48])) = ok := ⟨_, rfl⟩
         rw [hokd] at hEr'
         rw [hok] at hokd
         have hok' := hid hokd
         clear hok hokd
         go_cut [52] from 38 to 52 (fun bv wx => bv = .bool (!ok) ∧ wx = wr)
         case first =>
           cases d with
           | nil =>
             have : ok = false := by rw [← hok'.out]; rfl
             subst this
             go_wp2
             go_meet
             exact ⟨rfl, rfl⟩
           | cons y u =>
             have hy0 := idx0_run y u
             have hemp : (y :: u).isEmpty = false := rfl
             obtain ⟨n, hn⟩ : ∃ n, y.toNat = n := ⟨_, rfl⟩
             rw [hn] at hy0
             by_cases hy : y = 48
             · have hn48 : n = 48 := by rw [← hn, hy]; rfl
               subst hn48
               cases u with
               | nil =>
                 have hok : ok = !ng := by rw [← hok'.out, hy]; cases ng <;> rfl
                 subst hok
                 clear hok' hn hy
                 have hl1 : ¬ (1 : Int) < (([y] : List UInt8).length : Int) := by simp
                 generalize [y] = D at *
                 cases ng with
                 | false =>
                   go_wp2
                   go_meet
                   exact ⟨rfl, rfl⟩
                 | true =>
                   go_wp2
                   go_meet
                   exact ⟨rfl, rfl⟩
               | cons z v =>
                 have hok : ok = false := by rw [← hok'.out, hy]; rfl
                 subst hok
                 clear hok' hn hy
                 have hl1 : (1 : Int) < ((y :: z :: v).length : Int) := by simp; omega
                 generalize y :: z :: v = D at *
                 go_wp2
                 go_meet
                 exact ⟨rfl, rfl⟩
             · have hn48 : ((n : Int) == 48) = false := by
                 simp only [beq_eq_false_iff_ne, ne_eq]
                 intro e
                 exact hy (UInt8.toNat_inj.1 (show y.toNat = (48 : UInt8).toNat by have : (48 : UInt8).toNat = 48 := rfl; omega))
               have hok : ok = true := by
                 rw [← hok'.out]
                 simp [hy]
               subst hok
               clear hok' hn hy
               generalize y :: u = D at *
               go_wp2
               go_meet
               exact ⟨rfl, rfl⟩
         case rest =>
           obtain ⟨rfl, rfl⟩ := hcut
           cases ok with
           | false =>
             have hE : Er = 10 := by rw [← hEr'.out]; rfl
             have hZ0 : Z = 0 := by rw [← hZ'.out, hE]; rfl
             subst hE hZ0
             clear hEr' hZ' hok'
             go_wp2
             refine bodyPost_ret (v := .tuple #[.agg #[.bool false, .slice none 0 0], .int .i64 10]) (by simp [results, Tryz.results30, go_sem, r1, r2]) rfl ⟨_, rfl, isC_zero _ _, ?_⟩
             exact (hB0.setCell (p := ⟨w.heap.size, 0, none⟩) (by simp) _).setCell (p := ⟨w.heap.size, 1, none⟩) (by simp) _
           | true =>
             have hE2 := hEr'.out
             rw [if_pos rfl] at hE2
             have hE2' := hid hE2
             clear hEr' hE2
             by_cases h620 : d.length ≤ 620
             · have h620z : ¬ (620 : Int) < (d.length : Int) := by omega
               obtain ⟨kN0, hBN, hzN⟩ := newbox wc (.bool false) (.slice none 0 0) 68
               have kR0 := kR.below hBN kR.lt
               have hgR : w.heap.size < wc.heap.size := kR.lt
               have hBW := below_and hB0 (Nat.le_refl _) hBN
               clear hz0
               go_wp2
               generalize wc.alloc (.cells #[.bool false, .slice none 0 0] 68) = W1 at *
               generalize wc.heap.size = gn at *
               clear r1 r2 r3 r4 kR hB0 hBN hzN
               go_loopw [7] (fun iv wr => ∃ (j : Nat) (b : Bool) (o : Option Addr) (n c : Nat), iv = .int .i64 (j : Int) ∧ j ≤ d.length ∧ Box gn (.bool b) (.slice o n c) wr ∧ IsC (.agg #[.bool b, .slice o n c]) (pval (d.take j) : Int) 66 wr ∧ Box w.heap.size (.bool false) (.slice none 0 0) wr ∧ Below w.heap.size w wr) (fun iv _ => d.length - (intOf iv).toNat)
               case atStart => exact ⟨0, false, none, 0, 0, rfl, by omega, kN0, by simpa [pval] using isC_zero 66 _, kR0, hBW⟩
               case round =>
                 obtain ⟨j, b, o, n, c, rfl, hj, kN, hI, kR, hbw⟩ := hrel
                 clear kN0 kR0 hBW
                 have lN := kN.lt
                 have lR := kR.lt
                 by_cases h1 : j < d.length
                 · have h1z' : (j : Int) < (d.length : Int) := by omega
                   obtain ⟨x, n0, nx, V, V1, hx, hnx, hnn, hn9, hV, hV1, hpv, hmo, hVl⟩ := digs_all h1 h620 hdg
                   have hix := idx_run d j x hx
                   rw [hnx] at hix
                   rw [hV] at hI
                   have w1 := low_w1 hnn hn9
                   have w2 := low_w2 hn9
                   have w3 := low_w3 hn9
                   have hn0a := low_a hn9
                   have hn0b := low_b hn9
                   have he4 : Hid ((V : Int) * 10 + (n0 : Int) = (V1 : Int)) := hid (by rw [hpv]; omega)
                   have hj1 : j + 1 ≤ d.length := by omega
                   have Hwj := hid (low_wj (Nat.le_trans (Nat.le_of_lt h1) (Nat.le_trans hdl hs)))
                   have hRN : w.heap.size ≠ gn := by omega
                   have hRL : w.heap.size ≤ gn := by omega
                   have hmj : d.length - (j + 1) < d.length - j := by omega
                   have hV1' := hid hV1
                   have hVl' := hid hVl
                   clear hV hV1 hnx hnn hx hpv hVl
                   obtain ⟨y1, y2, y3, y4⟩ := id kN
                   have hIY : IsC (.agg #[.bool b, .slice o n c]) (V : Int) 128 wr := hI.mono (by omega)
                   have hD : Below wr.heap.size wr wr.drew := (Below.refl _ _).drew
                   have hDA : Below wr.heap.size wr (wr.drew.alloc (.cells #[.bool false, .slice none 0 0] 68)) := hD.alloc (Nat.le_refl _) _
                   have hNew : Box wr.heap.size (.bool false) (.slice none 0 0) (wr.drew.alloc (.cells #[.bool false, .slice none 0 0] 68)) := Box.new wr.drew _ _ _
                   have hDz : wr.heap.size < (wr.drew.alloc (.cells #[.bool false, .slice none 0 0] 68)).heap.size := by rw [World.size_alloc]; exact Nat.lt_succ_self _
                   go_wp2
                   go_cut [8, 9] from 65 to 70 (fun p8 v9 wx => ∃ g d' o' n' c', p8 = .pointer (some ⟨g, 0, none⟩) ∧ v9 = .bool true ∧ Box g (.bool d') (.slice o' n' c') wx ∧ IsC (.agg #[.bool d', .slice o' n' c']) ((V : Int) * 10) 128 wx ∧ Below wr.heap.size wr wx ∧ wr.heap.size ≤ g)
                   case first =>
                     obtain ⟨yd1, yd2, _, _⟩ := id (kN.drew)
                     obtain ⟨ya1, ya2, _, _⟩ := id (kN.below hDA lN)
                     go_region_held3 (fun w' => w'.cell? ⟨gn, 0, none⟩ = some (.bool b) ∧ w'.cell? ⟨gn, 1, none⟩ = some (.slice o n c)) (first | with_reducible exact ⟨yd1, yd2⟩ | with_reducible exact ⟨ya1, ya2⟩ | with_reducible exact ⟨g1, g2⟩ | with_reducible exact ⟨(kN.below (b3.alloc hz3 _) lN).1, (kN.below (b3.alloc hz3 _) lN).2.1⟩ | with_reducible exact ⟨g11, g12⟩ | with_reducible exact ⟨(kN.below (hB4.alloc hB4.size _) lN).1, (kN.below (hB4.alloc hB4.size _) lN).2.1⟩ | (refine ⟨?_, ?_⟩ <;> (rw [World.cell?_setCell_other _ _ _ _ (by simp; try omega), World.cell?_setCell_other _ _ _ _ (by simp; try omega)]; assumption)) | go_keep) (first
                         | (go_at_call 65
                            refine (ofInt_w 10 _ (by omega) (by omega)).mono ?_
                            rintro e w3 ⟨v3, rfl, h3, b3'⟩
                            have b3 : Below wr.heap.size wr w3 := by first | exact below_and hD (Nat.le_refl _) b3' | exact below_and hDA (Nat.le_refl _) b3'
                            have hz3 := b3.size
                            have hN3 := (h3.mono (show 2 ≤ 128 by omega)).isN
                            have hIY3 := (hIY.below b3).isN
                            obtain ⟨g1, g2, g3, g4⟩ := kN.below b3 lN
                            obtain ⟨d3, o3, n3, c3, rfl⟩ := h3.shape
                            first
                              | (have kM3 : Box wr.heap.size (.bool false) (.slice none 0 0) w3 := Box.below hNew b3' hDz
                                 have hz3' : wr.heap.size < w3.heap.size := Nat.lt_of_lt_of_le hDz b3'.size
                                 obtain ⟨m1, m2, m3, m4⟩ := id kM3)
                              | skip)
                         | (go_at_call 64
                            refine (rmul_w _ _ (V : Int) 10 128 _ (by omega) (by first | exact hIY3 | exact hIY3.below ((Below.refl _ _).alloc (Nat.le_refl _) _)) (by first | exact hN3 | exact hN3.below ((Below.refl _ _).alloc (Nat.le_refl _) _))).mono ?_
                            rintro e w4 ⟨v4, rfl, h4, b4'⟩
                            rw [hmo] at h4 ⊢
                            rw [if_pos rfl] at h4
                            have b4 : Below w3.heap.size w3 w4 := by first | exact b4' | exact below_and ((Below.refl _ _).alloc (Nat.le_refl _) _) (Nat.le_refl _) b4'
                            have hB4 := below_and b3 (Nat.le_refl _) b4
                            have hz4 := b4.size
                            obtain ⟨d4, o4, n4, c4, rfl⟩ := h4.shape
                            obtain ⟨g11, g12, g13, g14⟩ := kN.below hB4 lN
                            first
                              | (have kM4 : Box wr.heap.size (.bool false) (.slice none 0 0) w4 := kM3.below b4 (by omega)
                                 obtain ⟨m11, m12, m13, m14⟩ := id kM4)
                              | (have kM4 : Box w3.heap.size (.bool false) (.slice none 0 0) w4 := Box.below (Box.new w3 _ _ 68) b4' (by simp)
                                 obtain ⟨m11, m12, m13, m14⟩ := id kM4)
                              | skip))
                     all_goals (go_wp2_with fail; go_meet)
                     all_goals first
                       | exact ⟨_, d4, o4, n4, c4, rfl, rfl, Box.new _ _ _ _, h4.below ((Below.refl _ _).alloc (Nat.le_refl _) _), hB4.alloc hB4.size _, by omega⟩
                       | exact ⟨_, d4, o4, n4, c4, rfl, rfl, kM4.put, h4.box kM4, (hB4.setCell (p := ⟨_, 0, none⟩) (by simp; try omega) _).setCell (p := ⟨_, 1, none⟩) (by simp; try omega) _, by omega⟩
                   case rest =>
                     obtain ⟨g8, d8, o8, n8, c8, rfl, rfl, k8, h8, b8, hg8⟩ := hcut
                     have kN8 := kN.below b8 lN
                     have kR8 := kR.below b8 lR
                     have hbw8 := below_and hbw (Nat.le_refl _) b8
                     have l8 := k8.lt
                     have lN8 := kN8.lt
                     have lR8 := kR8.lt
                     have hne : gn ≠ g8 := by omega
                     clear hD hDA hNew hDz y1 y2 y3 y4 hIY hI kN kR
                     go_wp2_with fail
                     obtain ⟨yd1, yd2, _, _⟩ := id (k8.drew)
                     clear hmo hok' hE2' hZ' hdg hsz h1 h1z h1z' h620 h620z hdl hs
                     go_region_held3 (fun w' => w'.cell? ⟨g8, 0, none⟩ = some (.bool d8) ∧ w'.cell? ⟨g8, 1, none⟩ = some (.slice o8 n8 c8)) (first | with_reducible exact ⟨yd1, yd2⟩ | with_reducible exact ⟨g1, g2⟩ | with_reducible exact ⟨g11, g12⟩ | (refine ⟨?_, ?_⟩ <;> (rw [World.cell?_setCell_other _ _ _ _ (by simp; try omega), World.cell?_setCell_other _ _ _ _ (by simp; try omega)]; assumption)) | go_keep) (first
                         | (go_at_call 65
                            refine (ofInt_w (n0 : Int) _ hn0a hn0b).mono ?_
                            rintro e w3 ⟨v3, rfl, h3, b3'⟩
                            have b3 : Below wc.heap.size wc w3 := below_of_drew b3'
                            obtain ⟨g1, g2, g3, g4⟩ := k8.below b3 l8
                            obtain ⟨d3, o3, n3, c3, rfl⟩ := h3.shape)
                         | (go_at_call 66
                            refine (radd_w _ _ ((V : Int) * 10) (n0 : Int) 128 _ (by decide) (h8.below b3).isN (h3.mono (by decide)).isN).mono ?_
                            rintro e w4 ⟨v4, rfl, h4, b4'⟩
                            have b4 : Below wc.heap.size wc w4 := below_and b3 (Nat.le_refl _) b4'
                            have e4 := he4.out
                            rw [e4] at h4
                            clear e4
                            have h4' := h4.cutLen (k := 66) hVl'.out
                            obtain ⟨dF, oF, nF, cF, rfl⟩ := h4.shape
                            clear h4
                            have kN4 := kN8.below b4 lN8
                            have kR4 := kR8.below b4 lR8
                            have hbw4 := below_and hbw8 (Nat.le_refl _) b4
                            obtain ⟨g11, g12, g13, g14⟩ := k8.below b4 l8
                            obtain ⟨y1, y2, y3, y4⟩ := id kN4))
                     go_wp2_with fail
                     go_roundw
                     case rel =>
                       refine ⟨j + 1, dF, oF, nF, cF, by rw [Hwj.out]; go_num, hj1, kN4.put, ?_, kR4.far hRN, (hbw4.setCell (p := ⟨gn, 0, none⟩) hRL _).setCell (p := ⟨gn, 1, none⟩) hRL _⟩
                       rw [hV1'.out]
                       exact h4'.box kN4
                     case measure => rw [Hwj.out]; simp [intOf]; first | exact hmj | omega
                 · have h1z' : ¬ (j : Int) < (d.length : Int) := by omega
                   have hje : j = d.length := by omega
                   rw [hje, List.take_length] at hI
                   obtain ⟨hb1, hn1⟩ := hI.parts
                   rw [Int.natAbs_natCast] at hn1
                   have hb1' : b = false := by rw [hb1]; simp
                   subst hb1'
                   have hn1' := hid hn1
                   clear hje hb1 hn1
                   obtain ⟨y1, y2, y3, y4⟩ := id kN
                   obtain ⟨r1, r2, r3, r4⟩ := id kR
                   have hne : gn ≠ w.heap.size := by omega
                   by_cases h64 : n ≤ 64
                   · have h64z : ¬ (64 : Int) < (n : Int) := by omega
                     have hE : Er = 0 := by rw [← hE2'.out, if_neg (by rw [← hn1'.out]; omega)]
                     have hZv : Z = sv ng (pval d) := by rw [← hZ'.out, hE, if_pos rfl]
                     have hpos : ng = true → 0 < pval d := fun e => by
                       have h2 := hok'.out
                       rw [e] at h2
                       cases d with
                       | nil => simp at h2
                       | cons y u =>
                         refine pval_pos ?_
                         have h3 : 48 ≤ y.toNat := by
                           unfold isDigs at hdg
                           have := List.all_eq_true.1 hdg y (by simp)
                           simp at this; omega
                         have h4 : y ≠ 48 := fun e => by
                           subst e
                           cases u <;> simp at h2
                         have h5 : y.toNat ≠ 48 := fun e => h4 (UInt8.toNat_inj.1 (show y.toNat = (48 : UInt8).toNat by have : (48 : UInt8).toNat = 48 := rfl; omega))
                         omega
                     have hfin : IsC (.agg #[.bool ng, .slice o n c]) Z 64 wr := by
                       obtain ⟨o', c', e', L', z', q'⟩ := hI
                       simp only [Value.agg.injEq, Array.mk.injEq, List.cons.injEq, Value.slice.injEq, and_true] at e'
                       obtain ⟨_, rfl, rfl, rfl⟩ := e'
                       rw [Int.natAbs_natCast] at L' z' h64 ⊢
                       have := isC_of (neg := ng) (n := pval d) (K := 64) hZv.symm L' z' h64
                       have e : (ng && decide (pval d ≠ 0)) = ng := by
                         cases hng : ng with
                         | false => rfl
                         | true => have := hpos hng; simp; omega
                       rw [e] at this
                       exact this
                     subst hE
                     clear hE2' hZ' hok' hZv hpos hI hn1'
                     have kN2 : Box gn (.bool ng) (.slice o n c) (wr.setCell ⟨gn, 0, none⟩ (.bool ng)) := ⟨World.cell?_setCell_same _ _ _ y1, (World.cell?_setCell_other _ _ _ _ (by simp)).trans y2, (frozen_set _ _ rfl _ _).trans y3, (frozen_set _ _ rfl _ _).trans y4⟩
                     have kR2 : Box w.heap.size (.bool false) (.slice none 0 0) (wr.setCell ⟨gn, 0, none⟩ (.bool ng)) := ⟨(World.cell?_setCell_other _ _ _ _ (by first | (simp; done) | (simp; omega))).trans r1, (World.cell?_setCell_other _ _ _ _ (by first | (simp; done) | (simp; omega))).trans r2, (frozen_set _ _ rfl _ _).trans r3, (frozen_set _ _ rfl _ _).trans r4⟩
                     have hf2 : IsC (.agg #[.bool ng, .slice o n c]) Z 64 (wr.setCell ⟨gn, 0, none⟩ (.bool ng)) := by
                       obtain ⟨o', c', e', L', z', q'⟩ := hfin
                       exact ⟨o', c', e', L'.set y1 (by intro n; simp) _, z', q'⟩
                     have hb2 := hbw.setCell (p := ⟨gn, 0, none⟩) (by simp; omega) (.bool ng)
                     obtain ⟨s1, s2, s3, s4⟩ := id kN2
                     obtain ⟨s5, s6, s7, s8⟩ := id kR2
                     go_wp2
                     refine bodyPost_ret (v := .tuple #[.agg #[.bool ng, .slice o n c], .int .i64 0]) (by simp [results, Tryz.results30, go_sem, s5, s6]) rfl ⟨_, rfl, hf2.box kR2, ?_⟩
                     exact (hb2.setCell (p := ⟨w.heap.size, 0, none⟩) (by simp) _).setCell (p := ⟨w.heap.size, 1, none⟩) (by simp) _
                   · have h64z : (64 : Int) < (n : Int) := by omega
                     have hE : Er = 3 := by rw [← hE2'.out, if_pos (.inr (by rw [← hn1'.out]; omega))]
                     have hZ0 : Z = 0 := by rw [← hZ'.out, hE]; rfl
                     subst hE hZ0
                     clear hE2' hZ' hok' hI hn1'
                     go_wp2
                     refine bodyPost_ret (v := .tuple #[.agg #[.bool false, .slice none 0 0], .int .i64 3]) (by simp [results, Tryz.results30, go_sem, r1, r2]) rfl ⟨_, rfl, isC_zero _ _, ?_⟩
                     exact (hbw.setCell (p := ⟨w.heap.size, 0, none⟩) (by simp) _).setCell (p := ⟨w.heap.size, 1, none⟩) (by simp) _
             · have h620z : (620 : Int) < (d.length : Int) := by omega
               have hE : Er = 3 := by rw [← hE2'.out, if_pos (.inl (by omega))]
               have hZ0 : Z = 0 := by rw [← hZ'.out, hE]; rfl
               subst hE hZ0
               clear hE2' hZ' hok'
               go_wp2
               refine bodyPost_ret (v := .tuple #[.agg #[.bool false, .slice none 0 0], .int .i64 3]) (by simp [results, Tryz.results30, go_sem, r1, r2]) rfl ⟨_, rfl, isC_zero _ _, ?_⟩
               exact (hB0.setCell (p := ⟨w.heap.size, 0, none⟩) (by simp) _).setCell (p := ⟨w.heap.size, 1, none⟩) (by simp) _
open Go.Shelf
set_option maxHeartbeats 2000000 in
theorem is_here (g : Nat) (s : List UInt8) (i n : Nat) (t : List UInt8) (hs : s.length ≤ 65536) (hi : i + t.length ≤ s.length) (w : World) (h : RRf g s i false n w) :
   Calls Tryz.prog 32 #[.pointer (some ⟨g, 0, none⟩), .string (bs t)] w fun e w' => e = .returned (.bool (preB t (s.drop i))) ∧ RRf g s (if preB t (s.drop i) then i + t.length else i) false n w' ∧ Kpt (fun b => b = g) w w' := by
 obtain ⟨y0, y1, y2, y3, f1, f2, f3⟩ := h.cells
 have hH := hid h
 obtain ⟨B, hB⟩ : ∃ B, preB t (s.drop i) = B := ⟨_, rfl⟩
 rw [hB]
 have hsz : (bs s).size = s.length := bs_size s
 have htz : (bs t).size = t.length := bs_size t
 obtain ⟨S, hS⟩ : ∃ S, bs s = S := ⟨_, rfl⟩
 obtain ⟨T, hT⟩ : ∃ T, bs t = T := ⟨_, rfl⟩
 rw [hS] at hsz y0
 rw [hT] at htz
 rw [hT]
 have hex : S.extract i (i + T.size) = bs ((s.drop i).take t.length) := by rw [← hS, bs_ext, htz, Nat.add_sub_cancel_left]
 have hbb : (S.extract i (i + T.size) = T) ↔ B = true := by
   rw [hex, ← hB, ← hT]
   unfold preB
   constructor
   · intro e
     have := congrArg (fun b : ByteArray => b.data.toList) e
     simp [bs] at this
     simp [this]
   · intro e
     rw [eq_of_beq e]
 have hbbH := hid hbb
 have hA : Hid (i + T.size = i + t.length) := hid (by rw [htz])
 have hle : i + T.size ≤ S.size := by omega
 have hle2 : S.size ≤ 65536 := by omega
 obtain ⟨d, hd⟩ : ∃ d : Nat, (S.size : Int) - (i : Int) = (d : Int) := ⟨S.size - i, by omega⟩
 have hd2 : d ≤ 65536 := by omega
 have hd3 : T.size ≤ d := by omega
 have hlt : ((d : Int) < (T.size : Int)) = False := by simp only [eq_iff_iff, iff_false]; omega
 have hz1 : (i : Int) ≤ (i : Int) + (T.size : Int) := by omega
 have hz2 : (i : Int) + (T.size : Int) ≤ (S.size : Int) := by omega
 have hw1 : wrap64 (d : Int) = (d : Int) := by unfold wrap64; omega
 have hw2 : wrap64 ((i : Int) + (T.size : Int)) = (i : Int) + (T.size : Int) := by unfold wrap64; omega
 have htn : ((i : Int) + (T.size : Int)).toNat = i + T.size := by omega
 obtain ⟨X, hX⟩ : ∃ X, S.extract i (i + T.size) = X := ⟨_, rfl⟩
 have hXH := hid hX
 clear h hB hsz htz hS hT hex hbb hi hs
 cases B with
 | false =>
   have hcmp : (X.toList == T.toList) = false := tl_ne (fun e => by have := hbbH.out.1 (by rw [hXH.out]; exact e); cases this)
   go_enter Tryz.func32, Tryz.ntmps32
   go_wp2_with fail
   go_quiet (fail)
   go_wp2_with fail
   go_ret
   exact ⟨rfl, hH.out.below (below_drewNv (Below.refl _ _) _), Kpt.of_below (below_drewNv (Below.refl _ _) _)⟩
 | true =>
   have hcmp : (X.toList == T.toList) = true := by rw [← hXH.out, hbbH.out.2 rfl]; simp
   go_enter Tryz.func32, Tryz.ntmps32
   go_wp2_with fail
   go_quiet (fail)
   generalize hWq : World.drewN w _ = wq
   have bq : Below w.heap.size w wq := by rw [← hWq]; exact below_drewNv (Below.refl _ _) _
   have hq := hH.out.below bq
   obtain ⟨z0, z1, z2, z3, q1, q2, q3⟩ := hq.cells
   have h2 := hid (hq.set1 (i + T.size))
   have k2 := hid ((Kpt.of_below (F := fun b => b = g) bq).trans (Kpt.of_set (F := fun b => b = g) wq (p := ⟨g, 1, none⟩) rfl (.int .i64 ((i + T.size : Nat) : Int))))
   clear hWq hq bq
   go_wp2_with fail
   go_ret
   refine ⟨rfl, ?_, ?_⟩
   · rw [← hA.out]
     simpa using h2.out
   · simpa using k2.out
theorem pre_long {t r : List UInt8} (h : r.length < t.length) : preB t r = false := by
 unfold preB
 rw [beq_eq_false_iff_ne]
 intro e
 have := congrArg List.length e
 rw [List.length_take] at this
 omega
theorem is_w (g : Nat) (s : List UInt8) (i n : Nat) (t : List UInt8) (hs : s.length ≤ 65536) (hi : i ≤ s.length) (w : World) (h : RRf g s i false n w) :
   Calls Tryz.prog 32 #[.pointer (some ⟨g, 0, none⟩), .string (bs t)] w fun e w' => e = .returned (.bool (preB t (s.drop i))) ∧ RRf g s (if preB t (s.drop i) then i + t.length else i) false n w' ∧ Kpt (fun b => b = g) w w' := by
 by_cases hl : i + t.length ≤ s.length
 · exact is_here g s i n t hs hl w h
 · have e : preB t (s.drop i) = false := pre_long (by rw [List.length_drop]; omega)
   rw [e]
   exact is_short g s i n t hs hi (by omega) w h
def rrM (g : Nat) (w : World) : Nat :=
 match w.cell? ⟨g, 0, none⟩, w.cell? ⟨g, 1, none⟩ with
 | some (Value.string b), some (Value.int _ i) => b.size - i.toNat
 | _, _ => 0
theorem RRf.mes {g : Nat} {s : List UInt8} {i : Nat} {bad : Bool} {n : Nat} {w : World} (h : RRf g s i bad n w) : rrM g w = s.length - i := by
 obtain ⟨y0, y1, _⟩ := h.cells
 unfold rrM
 rw [y0, y1]
 simp [bs_size]
theorem dig_ge (b : UInt8) : digB b = (decide ((48 : Int) ≤ (b.toNat : Int)) && decide ((b.toNat : Int) ≤ 57)) := by
 unfold digB
 congr 1 <;> (rw [decide_eq_decide]; omega)
set_option maxHeartbeats 4000000 in
theorem run_w (g : Nat) (s : List UInt8) (i : Nat) (bad : Bool) (n : Nat) (hs : s.length ≤ 65536) (hi : i ≤ s.length) (w : World) (h : RRf g s i bad n w) :
   Calls Tryz.prog 29 #[.pointer (some ⟨g, 0, none⟩)] w fun e w' => e = .returned (.string (bs ((s.drop i).takeWhile digB))) ∧ RRf g s (i + ((s.drop i).takeWhile digB).length) bad n w' ∧ Kpt (fun b => b = g) w w' := by
 obtain ⟨A, hA⟩ : ∃ A, (s.drop i).takeWhile digB = A := ⟨_, rfl⟩
 rw [hA]
 have hAH := hid hA
 obtain ⟨y0, y1, y2, y3, f1, f2, f3⟩ := h.cells
 have hH := hid h
 have hsz : (bs s).size = s.length := bs_size s
 obtain ⟨S, hS⟩ : ∃ S, bs s = S := ⟨_, rfl⟩
 rw [hS] at hsz y0
 have hSH := hid hS
 have hszH := hid hsz
 have hiH := hid hi
 have hle2 : S.size ≤ 65536 := by omega
 have hi2 : (i : Int) ≤ 65536 := by omega
 clear h hA hsz hS hi hs
 go_enter Tryz.func29, Tryz.ntmps29
 go_wp2_with fail
 clear y0 y1 y2 y3 f1 f2 f3
 go_loopw [] (fun wr => ∃ (k : Nat), Hid (RRf g s k bad n wr) ∧ Hid (Kpt (fun b => b = g) w wr) ∧ i ≤ k ∧ k ≤ S.size ∧ Hid (((s.drop i).take (k - i)).all digB = true)) (fun wr => rrM g wr)
 case atStart => exact ⟨i, hH, hid (Kpt.refl _ _), Nat.le_refl _, by have := hszH.out; have := hiH.out; omega, hid (by simp)⟩
 case round =>
   obtain ⟨k, hR, hK, hik, hkS, hP⟩ := hrel
   obtain ⟨y0, y1, y2, y3, f1, f2, f3⟩ := hR.out.cells
   rw [hSH.out] at y0
   have hk3 : (k : Int) ≤ 65536 := by omega
   have hik2 : (i : Int) ≤ (k : Int) := by omega
   have hkS2 : (k : Int) ≤ (S.size : Int) := by omega
   have hend : Hid ((∀ b, s[k]? = some b → digB b = false) → S.extract i k = bs A ∧ i + A.length = k) := hid (fun hn => by
     have hi9 := hiH.out
     have h1 := (tw_at hP.out (fun b hb => by
       rw [List.getElem?_drop] at hb
       exact hn b (by rw [← hb]; congr 1; omega))).1
     rw [hAH.out] at h1
     refine ⟨by rw [← hSH.out, bs_ext, h1], ?_⟩
     rw [h1, List.length_take, List.length_drop]
     have := hszH.out
     omega)
   by_cases hp : k < S.size
   · obtain ⟨b, hb⟩ : ∃ b, s[k]? = some b := ⟨s[k]'(by rw [← hszH.out]; exact hp), by simp⟩
     have hix : ∀ w', (Instr.index 9 (.string S) (.int .i64 (k : Int))).run Tryz.prog w' = .ok (.int .u8 (b.toNat : Int)) w' := fun w' => by
       rw [← hSH.out]; exact idx_run s k b hb w'
     have hkz : (k : Int) < (S.size : Int) := by omega
     cases hdb : digB b with
     | true =>
       have hd := hdb
       rw [dig_ge, Bool.and_eq_true, decide_eq_true_eq, decide_eq_true_eq] at hd
       obtain ⟨hd1, hd2⟩ := hd
       have hPn : Hid (((s.drop i).take (k + 1 - i)).all digB = true) := hid (by
         have e : k + 1 - i = (k - i) + 1 := by omega
         rw [e, List.take_add_one, List.all_append, hP.out, List.getElem?_drop, show i + (k - i) = k by omega, hb]
         simp [hdb])
       have hkS3 : k + 1 ≤ S.size := hp
       have hbH := hid hb
       clear hend hb hdb
       go_wp2_with fail
       go_quiet (fail)
       generalize hWq : World.drewN wr _ = wq
       have bq : Below wr.heap.size wr wq := by rw [← hWq]; exact below_drewNv (Below.refl _ _) _
       have hq := hR.out.below bq
       have h2 := hid (hq.set1 (k + 1))
       have k2 := hid ((hK.out.trans (Kpt.of_below (F := fun b => b = g) bq)).trans (Kpt.of_set (F := fun b => b = g) wq (p := ⟨g, 1, none⟩) rfl (.int .i64 ((k + 1 : Nat) : Int))))
       have hm := hid (show rrM g (wq.setCell ⟨g, 1, none⟩ (.int .i64 ((k + 1 : Nat) : Int))) < rrM g wr by
         rw [h2.out.mes, hR.out.mes]
         have := hszH.out
         omega)
       clear y0 y1 y2 y3 f1 f2 f3
       obtain ⟨y0, y1, y2, y3, f1, f2, f3⟩ := hq.cells
       rw [hSH.out] at y0
       clear hWq hq bq hR hK hP
       go_wp2_with fail
       go_roundw
       case rel => exact ⟨k + 1, by simpa using h2, by simpa using k2, by omega, hkS3, hPn⟩
       case measure => simpa using hm.out
     | false =>
       obtain ⟨hx1, hx2⟩ := hend.out (fun b' hb' => by rw [hb] at hb'; injection hb' with e; rw [← e]; exact hdb)
       have hx2H := hid hx2
       have hRR := hR
       have hKK := hK
       rw [dig_ge] at hdb
       by_cases h48 : (48 : Int) ≤ (b.toNat : Int)
       · have h57 : ((b.toNat : Int) ≤ 57) = False := by
           simp only [eq_iff_iff, iff_false]
           intro h57
           rw [decide_eq_true h48, decide_eq_true h57] at hdb
           simp at hdb
         clear hend hb hdb hx2
         go_wp2_with fail
         go_quiet (fail)
         go_wp2_with fail
         go_quiet (fail)
         go_wp2_with fail
         go_ret
         refine ⟨rfl, ?_, ?_⟩
         · rw [hx2H.out]; exact hRR.out.below (below_drewNv (below_drewNv (Below.refl _ _) _) _)
         · exact hKK.out.trans (Kpt.of_below (below_drewNv (below_drewNv (Below.refl _ _) _) _))
       · have h48b : ((48 : Int) ≤ (b.toNat : Int)) = False := by simp only [h48]
         clear hend hb hdb hx2 h48
         go_wp2_with fail
         go_quiet (fail)
         go_wp2_with fail
         go_quiet (fail)
         go_wp2_with fail
         go_ret
         refine ⟨rfl, ?_, ?_⟩
         · rw [hx2H.out]; exact hRR.out.below (below_drewNv (below_drewNv (Below.refl _ _) _) _)
         · exact hKK.out.trans (Kpt.of_below (below_drewNv (below_drewNv (Below.refl _ _) _) _))
   · obtain ⟨hx1, hx2⟩ := hend.out (fun b' hb' => by
       exfalso
       have := (List.getElem?_eq_some_iff.1 hb').1
       have := hszH.out
       omega)
     have hx2H := hid hx2
     have hkf : ((k : Int) < (S.size : Int)) = False := by simp only [eq_iff_iff, iff_false]; omega
     have hRR := hR
     have hKK := hK
     clear hend hx2 hp
     go_wp2_with fail
     go_quiet (fail)
     go_wp2_with fail
     go_quiet (fail)
     go_wp2_with fail
     go_ret
     refine ⟨rfl, ?_, ?_⟩
     · rw [hx2H.out]; exact hRR.out.below (below_drewNv (below_drewNv (Below.refl _ _) _) _)
     · exact hKK.out.trans (Kpt.of_below (below_drewNv (below_drewNv (Below.refl _ _) _) _))
end Go.Proofs.YtlojfmlaookpmaaGreatDoor
