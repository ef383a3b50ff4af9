/- Texts of mine, one behind the other: OrdLess, OrdMath, OrdCT, OrdRB, OrdRCmp. -/
import Derived.Test.YtlojfmlaookpmaaGreatDoorSqG
import Derived.Lib.RuneCountTail
import Derived.Laws.IdiomStrings
import Derived.Deep.QuietTactic
import Derived.BigQuiet
import Derived.Deep.OwnRows
import Derived.Test.YtlojfmlaookpmaaGreatDoorSqH
set_option linter.unusedSimpArgs false
set_option linter.unusedVariables false
set_option maxRecDepth 2000
open List renaming getElem_toArray → zga, getElem_cons_succ → zgs, getElem_cons_zero → zgz, setIfInBounds_toArray → zsa, set_cons_succ → zss, set_cons_zero → zsz
namespace Go.Proofs.YtlojfmlaookpmaaGreatDoor
open Go.ChangeShapes Go.WideShapes Go.ChangeAt Go.RowKit Go.Shelf
def lexZ_o : List Nat → List Nat → Int
 | [], [] => 0
 | [], _ :: _ => -1
 | _ :: _, [] => 1
 | x :: xs, y :: ys => if x = y then lexZ_o xs ys else cmpZ (x : Int) (y : Int)
def lessZ_o (a b : List UInt8) : Int := if Lib.validD a && Lib.validD b then lexZ_o (sg a) (sg b) else Lib.compareBytes a b
theorem order_q_o (x y : Int) (w : World) :
   Calls Tryz.prog 40 #[.int .i64 x, .int .i64 y] w fun e w' => e = .returned (.int .i64 (cmpZ x y)) ∧ w' = w := order_w x y w
def RowB_o (g : Nat) (l : List UInt8) (w : World) : Prop := ∀ j x, l[j]? = some x → w.cell? ⟨g, j, none⟩ = some (.int .u8 (x.toNat : Int))
def RowR_o (g : Nat) (l : List Nat) (w : World) : Prop := ∀ (j r : Nat), l[j]? = some r → w.cell? ⟨g, j, none⟩ = some (.int .i32 (r : Int))
theorem RowB_o.below {g : Nat} {l : List UInt8} {w w' : World} (h : RowB_o g l w) (hb : Below w.heap.size w w') : RowB_o g l w' := fun j x hx =>
 (hb.cell (World.block_lt_of_cell? _ _ (h j x hx))).trans (h j x hx)
theorem RowR_o.below {g : Nat} {l : List Nat} {w w' : World} (h : RowR_o g l w) (hb : Below w.heap.size w w') : RowR_o g l w' := fun j x hx =>
 (hb.cell (World.block_lt_of_cell? _ _ (h j x hx))).trans (h j x hx)
theorem cmp_step_o (x y : UInt8) (s t : List UInt8) (h : x ≠ y) : Lib.compareBytes (x :: s) (y :: t) = cmpZ (x.toNat : Int) (y.toNat : Int) := by
 unfold Lib.compareBytes cmpZ
 simp only [UInt8.lt_iff_toNat_lt]
 have : x.toNat ≠ y.toNat := fun e => h (UInt8.toNat_inj.1 e)
 by_cases h1 : x.toNat < y.toNat
 · rw [if_pos h1, if_pos (by omega)]
 · rw [if_neg h1, if_pos (by omega), if_neg (by omega), if_pos (by omega)]
theorem cmp_same_o (x : UInt8) (s t : List UInt8) : Lib.compareBytes (x :: s) (x :: t) = Lib.compareBytes s t := by
 rw [Lib.compareBytes]; simp [UInt8.lt_iff_toNat_lt]
set_option maxHeartbeats 2000000 in
theorem bytewise_w_o (ga gb ca cb : Nat) (a b : List UInt8) (w : World) (ha : a.length ≤ 1000000) (hb : b.length ≤ 1000000) (hra : RowB_o ga a w) (hrb : RowB_o gb b w) :
   Calls Tryz.prog 43 #[.slice (some ⟨ga, 0, none⟩) a.length ca, .slice (some ⟨gb, 0, none⟩) b.length cb] w fun e w' => e = .returned (.int .i64 (Lib.compareBytes a b)) ∧ Below w.heap.size w w' := by
 obtain ⟨R, hR⟩ : ∃ R, Lib.compareBytes a b = R := ⟨_, rfl⟩
 rw [hR]
 go_enter Tryz.func43, Tryz.ntmps43
 go_wp2
 go_loopw [5] (fun i wr => ∃ k : Nat, i = .int .i64 (k : Int) ∧ k ≤ a.length ∧ k ≤ b.length ∧ Below w.heap.size w wr ∧ Hid (Lib.compareBytes (a.drop k) (b.drop k) = R)) (fun i _ => a.length - (intOf i).toNat)
 case atStart => exact ⟨0, rfl, by omega, by omega, Below.refl _ _, hid (by simpa using hR)⟩
 case round =>
   obtain ⟨k, rfl, hka, hkb, hbw, hH⟩ := hrel
   clear hR
   have ra := hra.below hbw
   have rb := hrb.below hbw
   by_cases h1 : k < a.length
   · have h1z : (k : Int) < (a.length : Int) := by omega
     by_cases h2 : k < b.length
     · have h2z : (k : Int) < (b.length : Int) := by omega
       obtain ⟨x, hx⟩ : ∃ x, a[k]? = some x := ⟨a[k], by simp [h1]⟩
       obtain ⟨y, hy⟩ : ∃ y, b[k]? = some y := ⟨b[k], by simp [h2]⟩
       have cx := ra k x hx
       have cy := rb k y hy
       have da : Hid (a.drop k = x :: a.drop (k + 1)) := hid (by rw [List.drop_eq_getElem_cons h1]; congr 1; simpa [h1] using hx)
       have db : Hid (b.drop k = y :: b.drop (k + 1)) := hid (by rw [List.drop_eq_getElem_cons h2]; congr 1; simpa [h2] using hy)
       clear ra rb
       by_cases hxy : x = y
       · subst hxy
         go_wp2
         go_quiet (fail)
         go_wp2
         go_roundw
         case rel =>
           refine ⟨k + 1, by go_num, by omega, by omega, below_drewNv hbw _, hid ?_⟩
           rw [← hH.out, da.out, db.out, cmp_same_o]
         case measure => simp [intOf]; omega
       · have hxz : ((x.toNat : Int) == (y.toNat : Int)) = false := by
           simp only [beq_eq_false_iff_ne, ne_eq]
           intro e; exact hxy (UInt8.toNat_inj.1 (by omega))
         have hwx : IntKind.i64.wrap (x.toNat : Int) = (x.toNat : Int) := by have := x.toNat_lt; rw [IntKind.wrap_i64]; omega
         have hwy : IntKind.i64.wrap (y.toNat : Int) = (y.toNat : Int) := by have := y.toNat_lt; rw [IntKind.wrap_i64]; omega
         have hres : R = cmpZ (x.toNat : Int) (y.toNat : Int) := by rw [← hH.out, da.out, db.out, cmp_step_o x y _ _ hxy]
         go_wp2
         go_quiet (fail)
         have hbw' := below_drewNv hbw nq
         have cx' := hra.below hbw' k x hx
         have cy' := hrb.below hbw' k y hy
         clear cx cy hbw
         generalize wr.drewN nq = wq at *
         go_wp2
         go_quiet ((go_at_call 40; exact Calls.quiet_of_same (order_q_o _ _ _)))
         go_wp2
         go_ret
         exact ⟨by rw [hres]; rfl, below_drewNv hbw' _⟩
     · have h2z : ¬ (k : Int) < (b.length : Int) := by omega
       have hres : R = cmpZ (a.length : Int) (b.length : Int) := by
         rw [← hH.out, List.drop_eq_getElem_cons h1, show b.drop k = [] from List.drop_eq_nil_of_le (by omega)]
         unfold cmpZ; rw [if_neg (by omega), if_pos (by omega)]; rfl
       go_wp2_with fail
       refine (order_q_o _ _ _).mono ?_
       rintro e w1 ⟨rfl, rfl⟩
       go_wp2
       go_ret
       exact ⟨by rw [hres]; rfl, hbw⟩
   · have h1z : ¬ (k : Int) < (a.length : Int) := by omega
     have hres : R = cmpZ (a.length : Int) (b.length : Int) := by
       rw [← hH.out, List.drop_eq_nil_of_le (by omega)]
       unfold cmpZ
       by_cases h2 : k < b.length
       · rw [List.drop_eq_getElem_cons h2, if_pos (by omega)]; rfl
       · rw [List.drop_eq_nil_of_le (by omega), if_neg (by omega), if_neg (by omega)]; rfl
     go_wp2_with fail
     refine (order_q_o _ _ _).mono ?_
     rintro e w1 ⟨rfl, rfl⟩
     go_wp2
     go_ret
     exact ⟨by rw [hres]; rfl, hbw⟩
theorem runesFrom_eq_o (s : ByteArray) : ∀ (bound i : Nat) (acc : Array Value), s.size ≤ i + bound → Conv.runesFrom s bound i acc = acc ++ ((sg (s.data.toList.drop i)).map fun (r : Nat) => Value.int .i32 (r : Int)).toArray
 | 0, i, acc, h => by
   rw [Conv.runesFrom, sg_end s i (by omega)]; simp
 | b + 1, i, acc, h => by
   rw [Conv.runesFrom]
   by_cases hp : i < s.size
   · have hw := Lib.width_pos s i
     rw [if_pos hp, sg_at s i hp]
     obtain ⟨⟨r, k⟩, hd⟩ : ∃ d, Utf8.decode s i = d := ⟨_, rfl⟩
     rw [hd] at hw ⊢
     have ih := runesFrom_eq_o s b (i + k) (acc.push (.int .i32 (r : Int))) (by simp only [] at hw; omega)
     simp only [List.map_cons]
     show Conv.runesFrom s b (i + k) (acc.push (.int .i32 (r : Int))) = _
     rw [ih]
     simp
   · rw [if_neg hp, sg_end s i hp]; simp
theorem runes_conv_o (s : ByteArray) (w : World) (hs : s.size ≤ 1000000) :
   ∃ cap W, (convert 9 112 (.string s)).run Tryz.prog w = .ok (.slice (some ⟨w.heap.size, 0, none⟩) (sg s.data.toList).length cap) W ∧ Below w.heap.size w W ∧ RowR_o w.heap.size (sg s.data.toList) W ∧ W.heap.size = w.heap.size + 1 := by
 have e : Conv.runesFrom s s.size 0 #[] = ((sg s.data.toList).map fun (r : Nat) => Value.int .i32 (r : Int)).toArray := by
   rw [runesFrom_eq_o s s.size 0 #[] (by omega)]; simp
 have hle := sg_le s.data.toList
 have hsz : s.data.toList.length = s.size := rfl
 have hr := run_runes_of_string (P := Tryz.prog) w 9 112 21 s Tryz.underlying9 Tryz.underlying112 Tryz.underlying21 (by rw [e]; simp; omega)
 rw [e] at hr
 simp only [List.size_toArray, List.length_map] at hr
 refine ⟨_, _, hr, ((Below.refl _ w).drew).alloc (Nat.le_refl _) _, ?_, by simp⟩
 intro j r hj
 rw [show ∀ o : Obj, (w.drew.alloc o).cell? ⟨w.heap.size, j, none⟩ = (w.drew.alloc o).cell? ⟨w.drew.heap.size, j, none⟩ from fun _ => rfl, Lib.cell_of_heap (Go.heap_alloc_new w.drew _)]
 have hjl : j < (sg s.data.toList).length := (List.getElem?_eq_some_iff.1 hj).1
 rw [Array.getElem?_append_left (by simpa using hjl)]
 simp [hj]
theorem bytes_conv_o (s : ByteArray) (w : World) :
   ∃ cap W, (convert 9 25 (.string s)).run Tryz.prog w = .ok (.slice (some ⟨w.heap.size, 0, none⟩) s.data.toList.length cap) W ∧ Below w.heap.size w W ∧ RowB_o w.heap.size s.data.toList W ∧ W.heap.size = w.heap.size + 1 := by
 have hr := run_bytes_of_string (P := Tryz.prog) w 9 25 5 s Tryz.underlying9 Tryz.underlying25 Tryz.underlying5
 refine ⟨_, _, hr, ((Below.refl _ w).drew).alloc (Nat.le_refl _) _, ?_, by simp⟩
 intro j x hx
 rw [show ∀ o : Obj, (w.drew.alloc o).cell? ⟨w.heap.size, j, none⟩ = (w.drew.alloc o).cell? ⟨w.drew.heap.size, j, none⟩ from fun _ => rfl, Lib.cell_of_heap (Go.heap_alloc_new w.drew _)]
 obtain ⟨hjl, hjx⟩ := List.getElem?_eq_some_iff.1 hx
 rw [bytesRow_at s _ j (by simpa using hjl)]
 subst hjx
 simp
set_option maxHeartbeats 4000000 in
set_option maxRecDepth 8000 in
theorem rless_w_o (a b : ByteArray) (w : World) (ha : a.size ≤ 1000000) (hb : b.size ≤ 1000000) (hT : Tabs w) :
   Calls Tryz.prog 42 #[.string a, .string b] w fun e w' => e = .returned (.int .i64 (lessZ_o a.data.toList b.data.toList)) ∧ Below w.heap.size w w' := by
 obtain ⟨R, hR⟩ : ∃ R, lessZ_o a.data.toList b.data.toList = R := ⟨_, rfl⟩
 rw [hR]
 unfold lessZ_o at hR
 have la := sg_le a.data.toList
 have lb := sg_le b.data.toList
 have za : a.data.toList.length = a.size := rfl
 have zb : b.data.toList.length = b.size := rfl
 cases va : Lib.validD a.data.toList with
 | false =>
   rw [va, Bool.false_and, if_neg (by simp)] at hR
   go_enter Tryz.func42, Tryz.ntmps42
   go_wp2_with fail
   refine (rvalid_w _ _ (by omega) hT).mono ?_
   rintro e w1 ⟨rfl, b1⟩
   obtain ⟨ca, W1, k1, B1, r1, z1⟩ := bytes_conv_o a w1
   obtain ⟨cb, W2, k2, B2, r2, z2⟩ := bytes_conv_o b W1
   have B1' : Below w.heap.size w W1 := b1.trans (below_le B1 b1.size)
   have B2' : Below w.heap.size w W2 := B1'.trans (below_le B2 B1'.size)
   have r1' := r1.below (below_le B2 (Nat.le_refl _))
   have s1 := b1.size
   have r2z : RowB_o (w1.heap.size + 1) b.data.toList W2 := by rw [← z1]; exact r2
   go_wp2_with fail
   refine (bytewise_w_o w1.heap.size (w1.heap.size + 1) ca cb a.data.toList b.data.toList W2 (by omega) (by omega) r1' r2z).mono ?_
   rintro e w3 ⟨rfl, b3⟩
   go_wp2
   go_ret
   exact ⟨by rw [← hR]; rfl, B2'.trans (below_le b3 B2'.size)⟩
 | true =>
   cases vb : Lib.validD b.data.toList with
   | false =>
     rw [va, vb, Bool.and_false, if_neg (by simp)] at hR
     go_enter Tryz.func42, Tryz.ntmps42
     go_wp2_with fail
     refine (rvalid_w _ _ (by omega) hT).mono ?_
     rintro e w0 ⟨rfl, b0⟩
     go_wp2_with fail
     refine (rvalid_w _ _ (by omega) (hT.below b0)).mono ?_
     rintro e w1 ⟨rfl, b1'⟩
     have b1 : Below w.heap.size w w1 := b0.trans (below_le b1' b0.size)
     obtain ⟨ca, W1, k1, B1, r1, z1⟩ := bytes_conv_o a w1
     obtain ⟨cb, W2, k2, B2, r2, z2⟩ := bytes_conv_o b W1
     have B1' : Below w.heap.size w W1 := b1.trans (below_le B1 b1.size)
     have B2' : Below w.heap.size w W2 := B1'.trans (below_le B2 B1'.size)
     have r1' := r1.below (below_le B2 (Nat.le_refl _))
     have s1 := b1.size
     have r2z : RowB_o (w1.heap.size + 1) b.data.toList W2 := by rw [← z1]; exact r2
     go_wp2_with fail
     refine (bytewise_w_o w1.heap.size (w1.heap.size + 1) ca cb a.data.toList b.data.toList W2 (by omega) (by omega) r1' r2z).mono ?_
     rintro e w3 ⟨rfl, b3⟩
     go_wp2
     go_ret
     exact ⟨by rw [← hR]; rfl, B2'.trans (below_le b3 B2'.size)⟩
   | true =>
     rw [va, vb, Bool.and_true, if_pos rfl] at hR
     have hpa : ∀ r ∈ sg a.data.toList, r ≤ 1114111 := fun r hr => by have := okRs_sg a.data.toList r hr; unfold okR at this; omega
     have hpb : ∀ r ∈ sg b.data.toList, r ≤ 1114111 := fun r hr => by have := okRs_sg b.data.toList r hr; unfold okR at this; omega
     go_enter Tryz.func42, Tryz.ntmps42
     go_wp2_with fail
     refine (rvalid_w _ _ (by omega) hT).mono ?_
     rintro e w0 ⟨rfl, b0⟩
     go_wp2_with fail
     refine (rvalid_w _ _ (by omega) (hT.below b0)).mono ?_
     rintro e w1 ⟨rfl, b1'⟩
     have b1 : Below w.heap.size w w1 := b0.trans (below_le b1' b0.size)
     obtain ⟨ca, W1, k1, B1, r1, z1⟩ := runes_conv_o a w1 ha
     obtain ⟨cb, W2, k2, B2, r2, z2⟩ := runes_conv_o b W1 hb
     have B1' : Below w.heap.size w W1 := b1.trans (below_le B1 b1.size)
     have B2' : Below w.heap.size w W2 := B1'.trans (below_le B2 B1'.size)
     have r1' := r1.below (below_le B2 (Nat.le_refl _))
     have s1 := b1.size
     have r2z : RowR_o (w1.heap.size + 1) (sg b.data.toList) W2 := by rw [← z1]; exact r2
     clear r1 r2 B1 B2 b1' b0
     generalize sg a.data.toList = X at *
     generalize sg b.data.toList = Y at *
     go_wp2
     go_loopw [7] (fun i wr => ∃ k : Nat, i = .int .i64 (k : Int) ∧ k ≤ X.length ∧ k ≤ Y.length ∧ Below W2.heap.size W2 wr ∧ Hid (lexZ_o (X.drop k) (Y.drop k) = R)) (fun i _ => X.length - (intOf i).toNat)
     case atStart => exact ⟨0, rfl, by omega, by omega, Below.refl _ _, hid (by simpa using hR)⟩
     case round =>
       obtain ⟨k, rfl, hka, hkb, hbw, hH⟩ := hrel
       clear hR va vb
       have ra := r1'.below hbw
       have rb := r2z.below hbw
       by_cases h1 : k < X.length
       · have h1z : (k : Int) < (X.length : Int) := by omega
         by_cases h2 : k < Y.length
         · have h2z : (k : Int) < (Y.length : Int) := by omega
           obtain ⟨x, hx⟩ : ∃ x, X[k]? = some x := ⟨X[k], by simp [h1]⟩
           obtain ⟨y, hy⟩ : ∃ y, Y[k]? = some y := ⟨Y[k], by simp [h2]⟩
           have cx := ra k x hx
           have cy := rb k y hy
           have mx := hpa x (List.mem_of_getElem? hx)
           have my := hpb y (List.mem_of_getElem? hy)
           have da : Hid (X.drop k = x :: X.drop (k + 1)) := hid (by rw [List.drop_eq_getElem_cons h1]; congr 1; simpa [h1] using hx)
           have db : Hid (Y.drop k = y :: Y.drop (k + 1)) := hid (by rw [List.drop_eq_getElem_cons h2]; congr 1; simpa [h2] using hy)
           clear ra rb
           by_cases hxy : x = y
           · subst hxy
             go_wp2
             go_quiet (fail)
             go_wp2
             go_roundw
             case rel =>
               refine ⟨k + 1, by go_num, by omega, by omega, below_drewNv hbw _, hid ?_⟩
               rw [← hH.out, da.out, db.out, lexZ_o, if_pos rfl]
             case measure => simp [intOf]; omega
           · have hxz : ((x : Int) == (y : Int)) = false := by
               simp only [beq_eq_false_iff_ne, ne_eq]; omega
             have hwx : IntKind.i64.wrap (x : Int) = (x : Int) := by rw [IntKind.wrap_i64]; omega
             have hwy : IntKind.i64.wrap (y : Int) = (y : Int) := by rw [IntKind.wrap_i64]; omega
             have hres : R = cmpZ (x : Int) (y : Int) := by rw [← hH.out, da.out, db.out, lexZ_o, if_neg hxy]
             go_wp2
             go_quiet (fail)
             have hbw' := below_drewNv hbw nq
             have cx' := r1'.below hbw' k x hx
             have cy' := r2z.below hbw' k y hy
             clear cx cy hbw
             generalize wr.drewN nq = wq at *
             go_wp2
             go_quiet ((go_at_call 40; exact Calls.quiet_of_same (order_q_o _ _ _)))
             go_wp2
             go_ret
             exact ⟨by rw [hres]; rfl, B2'.trans (below_le (below_drewNv hbw' _) B2'.size)⟩
         · have h2z : ¬ (k : Int) < (Y.length : Int) := by omega
           have hres : R = cmpZ (X.length : Int) (Y.length : Int) := by
             rw [← hH.out, List.drop_eq_getElem_cons h1, show Y.drop k = [] from List.drop_eq_nil_of_le (by omega)]
             unfold cmpZ; rw [if_neg (by omega), if_pos (by omega)]; rfl
           go_wp2_with fail
           refine (order_q_o _ _ _).mono ?_
           rintro e w1 ⟨rfl, rfl⟩
           go_wp2
           go_ret
           exact ⟨by rw [hres]; rfl, B2'.trans (below_le hbw B2'.size)⟩
       · have h1z : ¬ (k : Int) < (X.length : Int) := by omega
         have hres : R = cmpZ (X.length : Int) (Y.length : Int) := by
           rw [← hH.out, show X.drop k = [] from List.drop_eq_nil_of_le (by omega)]
           unfold cmpZ
           by_cases h2 : k < Y.length
           · rw [List.drop_eq_getElem_cons h2, if_pos (by omega)]; rfl
           · rw [List.drop_eq_nil_of_le (by omega), if_neg (by omega), if_neg (by omega)]; rfl
         go_wp2_with fail
         refine (order_q_o _ _ _).mono ?_
         rintro e w1 ⟨rfl, rfl⟩
         go_wp2
         go_ret
         exact ⟨by rw [hres]; rfl, B2'.trans (below_le hbw B2'.size)⟩
end Go.Proofs.YtlojfmlaookpmaaGreatDoor
namespace Go.Proofs.YtlojfmlaookpmaaGreatDoor
def lx (x y : Int) : Int := if x ≠ 0 then x else y
theorem lx_zero (y : Int) : lx 0 y = y := by simp [lx]
theorem lx_ne {x : Int} (h : x ≠ 0) (y : Int) : lx x y = x := by simp [lx, h]
theorem cz_le (x y : Int) : cmpZ x y ≤ 0 ↔ x ≤ y := by
 unfold cmpZ
 by_cases h1 : x < y
 · simp [h1]; omega
 · by_cases h2 : y < x
   · simp [h1, h2]
   · simp [h1, h2]; omega
theorem cz_ge (x y : Int) : 0 ≤ cmpZ x y ↔ y ≤ x := by
 unfold cmpZ
 by_cases h1 : x < y
 · simp [h1]
 · by_cases h2 : y < x
   · simp [h1, h2]; omega
   · simp [h1, h2]; omega
theorem cz_zero (x y : Int) : cmpZ x y = 0 ↔ x = y := by
 have h1 := cz_le x y
 have h2 := cz_ge x y
 omega
theorem cz_self (x : Int) : cmpZ x x = 0 := (cz_zero x x).2 rfl
theorem lexZ_cons (x y : Nat) (xs ys : List Nat) : lexZ_o (x :: xs) (y :: ys) = lx (cmpZ (x : Int) (y : Int)) (lexZ_o xs ys) := by
 show (if x = y then lexZ_o xs ys else cmpZ (x : Int) (y : Int)) = _
 by_cases h : x = y
 · subst h; rw [if_pos rfl, cz_self, lx_zero]
 · rw [if_neg h, lx_ne]
   rw [Ne, cz_zero]; omega
theorem lexZ_self : ∀ a : List Nat, lexZ_o a a = 0
 | [] => rfl
 | x :: xs => by rw [lexZ_cons, cz_self, lx_zero, lexZ_self xs]
mutual
def cT : Tm → Tm → Int
 | .mk k neg d nm n l b, .mk k' neg' d' nm' n' l' b' => lx (cmpZ k k') (
   if k = 0 then cmpZ (sv neg (gval 4294967296 d)) (sv neg' (gval 4294967296 d'))
   else if k = 1 then lessZ_o nm.data.toList nm'.data.toList
   else if k = 2 ∨ k = 3 then cmpZ n n'
   else if k = 7 then lexZ_o b b'
   else if k = 4 ∨ k = 6 then lx (cmpZ (l.length : Int) (l'.length : Int)) (cR l l')
   else 0)
def cR : List Tm → List Tm → Int
 | [], _ => 0
 | _ :: _, [] => 0
 | t :: l, t' :: l' => lx (cT t t') (cR l l')
end
theorem cR_cons (t t' : Tm) (l l' : List Tm) : cR (t :: l) (t' :: l') = lx (cT t t') (cR l l') := by rw [cR]
theorem cR_nil (l : List Tm) : cR [] l = 0 := by rw [cR]
open Go.ChangeShapes Go.WideShapes Go.ChangeAt Go.ChangeMaps Go.RowKit Go.Shelf
section
variable {neg neg' : Bool} {d d' : List Nat} {nm nm' : ByteArray} {n n' : Int} {l l' : List Tm} {b b' : List Nat}
theorem cT_0 : cT (.mk 0 neg d nm n l b) (.mk 0 neg' d' nm' n' l' b') = cmpZ (sv neg (gval 4294967296 d)) (sv neg' (gval 4294967296 d')) := by rw [cT, cz_self, lx_zero, if_pos rfl]
theorem cT_1 : cT (.mk 1 neg d nm n l b) (.mk 1 neg' d' nm' n' l' b') = lessZ_o nm.data.toList nm'.data.toList := by rw [cT, cz_self, lx_zero, if_neg (by decide), if_pos rfl]
theorem cT_2 : cT (.mk 2 neg d nm n l b) (.mk 2 neg' d' nm' n' l' b') = cmpZ n n' := by rw [cT, cz_self, lx_zero, if_neg (by decide), if_neg (by decide), if_pos (by decide)]
theorem cT_3 : cT (.mk 3 neg d nm n l b) (.mk 3 neg' d' nm' n' l' b') = cmpZ n n' := by rw [cT, cz_self, lx_zero, if_neg (by decide), if_neg (by decide), if_pos (by decide)]
theorem cT_7 : cT (.mk 7 neg d nm n l b) (.mk 7 neg' d' nm' n' l' b') = lexZ_o b b' := by rw [cT, cz_self, lx_zero, if_neg (by decide), if_neg (by decide), if_neg (by decide), if_pos rfl]
theorem cT_4 : cT (.mk 4 neg d nm n l b) (.mk 4 neg' d' nm' n' l' b') = lx (cmpZ (l.length : Int) (l'.length : Int)) (cR l l') := by rw [cT, cz_self, lx_zero, if_neg (by decide), if_neg (by decide), if_neg (by decide), if_neg (by decide), if_pos (by decide)]
theorem cT_6 : cT (.mk 6 neg d nm n l b) (.mk 6 neg' d' nm' n' l' b') = lx (cmpZ (l.length : Int) (l'.length : Int)) (cR l l') := by rw [cT, cz_self, lx_zero, if_neg (by decide), if_neg (by decide), if_neg (by decide), if_neg (by decide), if_pos (by decide)]
theorem cT_kind {k k' : Int} (h : k ≠ k') : cT (.mk k neg d nm n l b) (.mk k' neg' d' nm' n' l' b') = cmpZ k k' := by rw [cT, lx_ne (by rw [Ne, cz_zero]; exact h)]
end
theorem heap_setc {w : World} {b j : Nat} {cs : Array Value} {T : TypeId} (h : w.heap[b]? = some (.cells cs T (0, 0))) (q : Value) :
   (w.setCell ⟨b, j, none⟩ q).heap[b]? = some (.cells (cs.setIfInBounds j q) T (0, 0)) := by
 simp [World.setCell, Array.getElem?_modify, h]
def ShutO (p : Prop) : Prop := p
theorem shutO {p : Prop} (h : p) : ShutO p := h
theorem ShutO.out {p : Prop} (h : ShutO p) : p := h
set_option maxHeartbeats 1000000 in
theorem rNil_w (w : World) : Calls Tryz.prog 28 #[] w fun e w' => e = .returned (tmV 5 false nilS noS 0 nilS nilS) ∧ Below w.heap.size w w' := by
 go_enter Tryz.func28, Tryz.ntmps28
 go_wp2
 exact bodyPost_ret (v := tmV 5 false nilS noS 0 nilS nilS) (by simp [results, Tryz.results28, go_sem]) rfl ⟨rfl, (Below.refl _ w).alloc (Nat.le_refl _) _⟩
set_option maxHeartbeats 2000000 in
set_option maxRecDepth 4000 in
theorem rbytes_w (oa ob : Option Addr) (ca cb : Nat) (a b : List Nat) (w : World) (ha : a.length ≤ 1000000) (hb : b.length ≤ 1000000) (hra : LsB (Low w) oa a w) (hrb : LsB (Low w) ob b w) :
   Calls Tryz.prog 43 #[.slice oa a.length ca, .slice ob b.length cb] w fun e w' => e = .returned (.int .i64 (lexZ_o a b)) ∧ Below w.heap.size w w' := by
 obtain ⟨R, hR⟩ : ∃ R, lexZ_o a b = R := ⟨_, rfl⟩
 rw [hR]
 go_enter Tryz.func43, Tryz.ntmps43
 go_wp2
 go_loopw [5] (fun i wr => ∃ k : Nat, i = .int .i64 (k : Int) ∧ k ≤ a.length ∧ k ≤ b.length ∧ Below w.heap.size w wr ∧ Hid (lexZ_o (a.drop k) (b.drop k) = R)) (fun i _ => a.length - (intOf i).toNat)
 case atStart => exact ⟨0, rfl, by omega, by omega, Below.refl _ _, hid (by simpa using hR)⟩
 case round =>
   obtain ⟨k, rfl, hka, hkb, hbw, hH⟩ := hrel
   clear hR
   have ra := hra.zs (fun k hk => hbw.block k hk)
   have rb := hrb.zs (fun k hk => hbw.block k hk)
   by_cases h1 : k < a.length
   · have h1z : (k : Int) < (a.length : Int) := by omega
     by_cases h2 : k < b.length
     · have h2z : (k : Int) < (b.length : Int) := by omega
       obtain ⟨x, hx⟩ : ∃ x, a[k]? = some x := ⟨a[k], by simp [h1]⟩
       obtain ⟨y, hy⟩ : ∃ y, b[k]? = some y := ⟨b[k], by simp [h2]⟩
       obtain ⟨da', hda, _, cx⟩ := ra.1 k (.int .u8 (x : Int)) (by simp [hx])
       obtain ⟨db', hdb, _, cy⟩ := rb.1 k (.int .u8 (y : Int)) (by simp [hy])
       subst hda
       subst hdb
       have hx2 : x < 256 := hra.2 x (List.mem_of_getElem? hx)
       have hy2 : y < 256 := hrb.2 y (List.mem_of_getElem? hy)
       have da : Hid (a.drop k = x :: a.drop (k + 1)) := hid (by rw [List.drop_eq_getElem_cons h1]; congr 1; simpa [h1] using hx)
       have db : Hid (b.drop k = y :: b.drop (k + 1)) := hid (by rw [List.drop_eq_getElem_cons h2]; congr 1; simpa [h2] using hy)
       clear ra rb
       have Hx := hid hx
       have Hy := hid hy
       clear hx hy
       by_cases hxy : x = y
       · subst hxy
         go_wp2
         go_quiet (fail)
         go_wp2
         go_roundw
         case rel =>
           refine ⟨k + 1, by go_num, by omega, by omega, below_drewNv hbw _, hid ?_⟩
           rw [← hH.out, da.out, db.out, lexZ_o, if_pos rfl]
         case measure => simp [intOf]; omega
       · have hxz : ((x : Int) == (y : Int)) = false := by
           simp only [beq_eq_false_iff_ne, ne_eq]
           omega
         have hwx : IntKind.i64.wrap (x : Int) = (x : Int) := by rw [IntKind.wrap_i64]; omega
         have hwy : IntKind.i64.wrap (y : Int) = (y : Int) := by rw [IntKind.wrap_i64]; omega
         have hres : R = cmpZ (x : Int) (y : Int) := by rw [← hH.out, da.out, db.out, lexZ_o, if_neg hxy]
         go_wp2
         go_quiet (fail)
         have hbw' := below_drewNv hbw nq
         obtain ⟨e1, he1, _, cx'⟩ := (hra.zs (fun k hk => hbw'.block k hk)).1 k (.int .u8 (x : Int)) (by simp [Hx.out])
         obtain ⟨e2, he2, _, cy'⟩ := (hrb.zs (fun k hk => hbw'.block k hk)).1 k (.int .u8 (y : Int)) (by simp [Hy.out])
         injection he1 with he1
         injection he2 with he2
         subst he1
         subst he2
         clear cx cy hbw
         generalize wr.drewN nq = wq at *
         go_wp2
         go_quiet ((go_at_call 40; exact Calls.quiet_of_same (order_q_o _ _ _)))
         go_wp2
         go_ret
         exact ⟨by rw [hres]; rfl, below_drewNv hbw' _⟩
     · have h2z : ¬ (k : Int) < (b.length : Int) := by omega
       have hres : R = cmpZ (a.length : Int) (b.length : Int) := by
         rw [← hH.out, List.drop_eq_getElem_cons h1, show b.drop k = [] from List.drop_eq_nil_of_le (by omega)]
         unfold cmpZ; rw [if_neg (by omega), if_pos (by omega)]; rfl
       go_wp2_with fail
       refine (order_q_o _ _ _).mono ?_
       rintro e w1 ⟨rfl, rfl⟩
       go_wp2
       go_ret
       exact ⟨by rw [hres]; rfl, hbw⟩
   · have h1z : ¬ (k : Int) < (a.length : Int) := by omega
     have hres : R = cmpZ (a.length : Int) (b.length : Int) := by
       rw [← hH.out, List.drop_eq_nil_of_le (by omega)]
       unfold cmpZ
       by_cases h2 : k < b.length
       · rw [List.drop_eq_getElem_cons h2, if_pos (by omega)]; rfl
       · rw [List.drop_eq_nil_of_le (by omega), if_neg (by omega), if_neg (by omega)]; rfl
     go_wp2_with fail
     refine (order_q_o _ _ _).mono ?_
     rintro e w1 ⟨rfl, rfl⟩
     go_wp2
     go_ret
     exact ⟨by rw [hres]; rfl, hbw⟩
set_option maxHeartbeats 8000000 in
set_option maxRecDepth 8000 in
theorem rCompare_w : ∀ (N : Nat) (A U : Tm) (va vb : Value) (w : World), tsz A ≤ N → (∀ p ∈ parts A, p.ok1) → (∀ p ∈ parts U, p.ok1) → TV (Low w) w A va → TV (Low w) w U vb → Tabs w →
   Calls Tryz.prog 19 #[va, vb] w fun e w' => e = .returned (.int .i64 (cT A U)) ∧ Below w.heap.size w w' := by
 intro N
 induction N with
 | zero => intro A U va vb w h; cases A; simp only [tsz] at h; omega
 | succ N ih =>
 intro A U va vb w hN hokA hokU hA hU hT
 have hA1 := hokA A (by rw [parts_eq]; simp)
 have hU1 := hokU U (by rw [parts_eq]; simp)
 have hok := hid (And.intro hokA hokU)
 clear hokA hokU
 cases A with | mk k neg d nm n l b =>
 cases U with | mk k' neg' d' nm' n' l' b' =>
 obtain ⟨hd1, hn1, hll, hb1, hm1⟩ : d.length ≤ 1000000 ∧ nm.size ≤ 1000000 ∧ l.length ≤ 1000000 ∧ b.length ≤ 1000000 ∧ Lm 4294967296 d := hA1
 obtain ⟨hd2, hn2, hll2, hb2, hm2⟩ : d'.length ≤ 1000000 ∧ nm'.size ≤ 1000000 ∧ l'.length ≤ 1000000 ∧ b'.length ≤ 1000000 ∧ Lm 4294967296 d' := hU1
 unfold TV at hA hU
 obtain ⟨od, cd, ol, cl, ob, cb, rfl, g1, g2, g3, g4, g5, g6, g7⟩ := hA
 obtain ⟨od', cd', ol', cl', ob', cb', rfl, j1, j2, j3, j4, j5, j6, j7⟩ := hU
 have htR := hid g7
 have huR := hid j7
 have hIH := hid ih
 obtain ⟨R, hR⟩ : ∃ R, cT (.mk k neg d nm n l b) (.mk k' neg' d' nm' n' l' b') = R := ⟨_, rfl⟩
 rw [hR]
 have HR := hid hR
 clear ih g7 j7 hR
 obtain ⟨kA, kB, hB0, hz0⟩ := bx2 w (.int .i64 k) (.bool neg) (.slice od d.length cd) (.string nm) (.int .i64 n) (.slice ol l.length cl) (.slice ob b.length cb) (.int .i64 k') (.bool neg') (.slice od' d'.length cd') (.string nm') (.int .i64 n') (.slice ol' l'.length cl') (.slice ob' b'.length cb') 27 27
 have q : ∀ w', Below w.heap.size w w' → Zs (Low w) w w' := fun w' hb k hk => hb.block k hk
 have hlow : ∀ {w'}, Below w.heap.size w w' → ∀ k, k < w'.heap.size → Low w k → Low w' k := fun hb k hk _ => hk
 go_enter Tryz.func19, Tryz.ntmps19
 by_cases hk : k = k'
 case neg =>
   have f1 : (k != k') = true := by simpa using hk
   have f2 : (k == k') = false := by simpa using hk
   have hR2 : Hid (R = cmpZ k k') := hid (by rw [← HR.out, cT_kind hk])
   clear hk
   go_wp2_with fail
   refine (order_w _ _ _).mono ?_
   rintro e w2 ⟨rfl, rfl⟩
   go_wp2
   go_ret
   exact ⟨by rw [hR2.out]; rfl, hB0⟩
 subst hk
 by_cases hk0 : k = 0
 · subst hk0
   have hR2 : Hid (R = cmpZ (sv neg (gval 4294967296 d)) (sv neg' (gval 4294967296 d'))) := hid (by rw [← HR.out, cT_0])
   have hNX := (show IsN (.agg #[.bool neg, .slice od d.length cd]) (sv neg (gval 4294967296 d)) 1000000 _ from ⟨neg, od, d, cd, rfl, (g1.zs (q _ hB0)).lies, g2, g3, rfl, hd1⟩)
   have hNY := (show IsN (.agg #[.bool neg', .slice od' d'.length cd']) (sv neg' (gval 4294967296 d')) 1000000 _ from ⟨neg', od', d', cd', rfl, (j1.zs (q _ hB0)).lies, j2, j3, rfl, hd2⟩)
   go_wp2_with fail
   refine (rcmp_w _ _ _ _ 1000000 _ (by omega) hNX hNY).mono ?_
   rintro e w2 ⟨rfl, b2⟩
   go_wp2
   go_ret
   exact ⟨by rw [hR2.out]; rfl, below_and hB0 (Nat.le_refl _) b2⟩
 by_cases hk1 : k = 1
 · subst hk1
   have hR2 : Hid (R = lessZ_o nm.data.toList nm'.data.toList) := hid (by rw [← HR.out, cT_1])
   have hT2 := hT.below hB0
   go_wp2_with fail
   refine (rless_w_o nm nm' _ hn1 hn2 hT2).mono ?_
   rintro e w2 ⟨rfl, b2⟩
   go_wp2
   go_ret
   exact ⟨by rw [hR2.out]; rfl, below_and hB0 (Nat.le_refl _) b2⟩
 by_cases hk2 : k = 2
 · subst hk2
   have hR2 : Hid (R = cmpZ n n') := hid (by rw [← HR.out, cT_2])
   go_wp2_with fail
   refine (order_w _ _ _).mono ?_
   rintro e w2 ⟨rfl, rfl⟩
   go_wp2
   go_ret
   exact ⟨by rw [hR2.out]; rfl, hB0⟩
 by_cases hk3 : k = 3
 · subst hk3
   have hR2 : Hid (R = cmpZ n n') := hid (by rw [← HR.out, cT_3])
   go_wp2_with fail
   refine (order_w _ _ _).mono ?_
   rintro e w2 ⟨rfl, rfl⟩
   go_wp2
   go_ret
   exact ⟨by rw [hR2.out]; rfl, hB0⟩
 by_cases hk7 : k = 7
 · subst hk7
   have hR2 : Hid (R = lexZ_o b b') := hid (by rw [← HR.out, cT_7])
   have i1 := (g4.zs (q _ hB0)).mono (hlow hB0)
   have i2 := (j4.zs (q _ hB0)).mono (hlow hB0)
   go_wp2_with fail
   refine (rbytes_w ob ob' cb cb' b b' _ hb1 hb2 i1 i2).mono ?_
   rintro e w2 ⟨rfl, b2⟩
   go_wp2
   go_ret
   exact ⟨by rw [hR2.out]; rfl, below_and hB0 (Nat.le_refl _) b2⟩
 by_cases hk4 : k = 4
 · subst hk4
   clear q hlow g1 g2 g3 g4 g5 g6 j1 j2 j3 j4 j5 j6
   by_cases hl2 : l.length = l'.length
   · have hHR : Hid (cR l l' = R) := hid (by rw [← HR.out, cT_4, hl2, cz_self, lx_zero])
     have hel := hid hl2
     have f3 : ((l.length : Int) != (l'.length : Int)) = false := by simp [hl2]
     have f4 : ((l.length : Int) == (l'.length : Int)) = true := by simp [hl2]
     have hok2 : Hid (∀ p ∈ partsL l, p.ok1) := hid (fun p hp' => hok.out.1 p (by simp [parts, hp']))
     have hok2' : Hid (∀ p ∈ partsL l', p.ok1) := hid (fun p hp' => hok.out.2 p (by simp [parts, hp']))
     clear hl2
     go_wp2_with fail
     generalize ((w.alloc (.cells #[.int .i64 4, .bool neg, .slice od d.length cd, .string nm, .int .i64 n, .slice ol l.length cl, .slice ob b.length cb] 27)).alloc (.cells #[.int .i64 4, .bool neg', .slice od' d'.length cd', .string nm', .int .i64 n', .slice ol' l'.length cl', .slice ob' b'.length cb'] 27)) = W0 at *
     go_loopg [5] l.length (fun t v5 wr => ∃ (i : Nat), t + i = l.length ∧ v5 = .int .i64 (i : Int) ∧ Hid (cR (l.drop i) (l'.drop i) = R) ∧ Bx w.heap.size (.int .i64 4) (.bool neg) (.slice od d.length cd) (.string nm) (.int .i64 n) (.slice ol l.length cl) (.slice ob b.length cb) wr ∧ Bx (w.heap.size + 1) (.int .i64 4) (.bool neg') (.slice od' d'.length cd') (.string nm') (.int .i64 n') (.slice ol' l'.length cl') (.slice ob' b'.length cb') wr ∧ Below w.heap.size w wr)
     case atStart => exact ⟨0, by omega, rfl, hid (by simpa using hHR.out), kA, kB, hB0⟩
     case round =>
       obtain ⟨i, hti, rfl, hH, kA', kB', hBr⟩ := hrel
       clear kA kB hB0
       obtain ⟨x0, x1, x2, x3, x4, x5, x6⟩ := kA'.res
       obtain ⟨z0, z1, z2, z3, z4, z5, z6⟩ := kB'.res
       by_cases hil : i < l.length
       · have hii : ((i : Nat) : Int) < ((l.length : Nat) : Int) := by omega
         have hil' : i < l'.length := by have := hel.out; omega
         have hii' : ((i : Nat) : Int) < ((l'.length : Nat) : Int) := by omega
         obtain ⟨t, ht⟩ : ∃ t, l[i]? = some t := ⟨l[i], by simp [hil]⟩
         obtain ⟨t', ht'⟩ : ∃ t', l'[i]? = some t' := ⟨l'[i], by simp [hil']⟩
         obtain ⟨pa, pk, pneg, pod, pld, pcd, pnm, pn, pol, pll, pcl, pob, plb, pcb, rfl, hTp, y0, y1, y2, y3, y4, y5, y6⟩ := htR.out.get ht hBr
         obtain ⟨qa, qk, qneg, qod, qld, qcd, qnm, qn, qol, qll, qcl, qob, qlb, qcb, rfl, hTq, u0, u1, u2, u3, u4, u5, u6⟩ := huR.out.get ht' hBr
         have hsz : tsz t ≤ N := by have := tsz_mem ht; simp only [tsz] at hN; omega
         have hokt : ∀ p ∈ parts t, p.ok1 := fun p hp => hok2.out p (mem_partsL ht hp)
         have hokt' : ∀ p ∈ parts t', p.ok1 := fun p hp => hok2'.out p (mem_partsL ht' hp)
         have hTr := hT.below hBr
         have hstep : Hid (cR (l.drop i) (l'.drop i) = lx (cT t t') (cR (l.drop (i + 1)) (l'.drop (i + 1)))) := hid (by
           rw [List.drop_eq_getElem_cons hil, List.drop_eq_getElem_cons hil', cR_cons]
           rw [show l[i] = t from by simpa [hil] using ht, show l'[i] = t' from by simpa [hil'] using ht'])
         clear ht ht' hil'
         have hDr : Below wr.heap.size wr wr.drew := (Below.refl _ wr).drew
         have hS : Hid (∀ w', Below wr.heap.size wr w' → (w'.cell? ⟨w.heap.size, 0, none⟩ = some (.int .i64 4) ∧ w'.cell? ⟨w.heap.size, 1, none⟩ = some (.bool neg) ∧ w'.cell? ⟨w.heap.size, 2, none⟩ = some (.slice od d.length cd) ∧ w'.cell? ⟨w.heap.size, 3, none⟩ = some (.string nm) ∧ w'.cell? ⟨w.heap.size, 4, none⟩ = some (.int .i64 n) ∧ w'.cell? ⟨w.heap.size, 5, none⟩ = some (.slice (some pa) l.length cl) ∧ w'.cell? ⟨w.heap.size, 6, none⟩ = some (.slice ob b.length cb) ∧ w'.cell? ⟨w.heap.size + 1, 0, none⟩ = some (.int .i64 4) ∧ w'.cell? ⟨w.heap.size + 1, 1, none⟩ = some (.bool neg') ∧ w'.cell? ⟨w.heap.size + 1, 2, none⟩ = some (.slice od' d'.length cd') ∧ w'.cell? ⟨w.heap.size + 1, 3, none⟩ = some (.string nm') ∧ w'.cell? ⟨w.heap.size + 1, 4, none⟩ = some (.int .i64 n') ∧ w'.cell? ⟨w.heap.size + 1, 5, none⟩ = some (.slice (some qa) l'.length cl') ∧ w'.cell? ⟨w.heap.size + 1, 6, none⟩ = some (.slice ob' b'.length cb') ∧ w'.cell? (pa.add (i * 7)) = some (.int .i64 pk) ∧ w'.cell? ⟨(pa.add (i * 7)).block, (pa.add (i * 7)).off + 1, none⟩ = some (.bool pneg) ∧ w'.cell? ⟨(pa.add (i * 7)).block, (pa.add (i * 7)).off + 2, none⟩ = some (.slice pod pld pcd) ∧ w'.cell? ⟨(pa.add (i * 7)).block, (pa.add (i * 7)).off + 3, none⟩ = some (.string pnm) ∧ w'.cell? ⟨(pa.add (i * 7)).block, (pa.add (i * 7)).off + 4, none⟩ = some (.int .i64 pn) ∧ w'.cell? ⟨(pa.add (i * 7)).block, (pa.add (i * 7)).off + 5, none⟩ = some (.slice pol pll pcl) ∧ w'.cell? ⟨(pa.add (i * 7)).block, (pa.add (i * 7)).off + 6, none⟩ = some (.slice pob plb pcb) ∧ w'.cell? (qa.add (i * 7)) = some (.int .i64 qk) ∧ w'.cell? ⟨(qa.add (i * 7)).block, (qa.add (i * 7)).off + 1, none⟩ = some (.bool qneg) ∧ w'.cell? ⟨(qa.add (i * 7)).block, (qa.add (i * 7)).off + 2, none⟩ = some (.slice qod qld qcd) ∧ w'.cell? ⟨(qa.add (i * 7)).block, (qa.add (i * 7)).off + 3, none⟩ = some (.string qnm) ∧ w'.cell? ⟨(qa.add (i * 7)).block, (qa.add (i * 7)).off + 4, none⟩ = some (.int .i64 qn) ∧ w'.cell? ⟨(qa.add (i * 7)).block, (qa.add (i * 7)).off + 5, none⟩ = some (.slice qol qll qcl) ∧ w'.cell? ⟨(qa.add (i * 7)).block, (qa.add (i * 7)).off + 6, none⟩ = some (.slice qob qlb qcb))) := hid (fun w' hb => by
           obtain ⟨x0, x1, x2, x3, x4, x5, x6⟩ := (kA'.below hb).res
           obtain ⟨z0, z1, z2, z3, z4, z5, z6⟩ := (kB'.below hb).res
           have q : ∀ {a : Addr} {v : Value}, wr.cell? a = some v → w'.cell? a = some v := fun h => (hb.cell (World.block_lt_of_cell? _ _ h)).trans h
           exact ⟨x0, x1, x2, x3, x4, x5, x6, z0, z1, z2, z3, z4, z5, z6, q y0, q y1, q y2, q y3, q y4, q y5, q y6, q u0, q u1, q u2, q u3, q u4, q u5, q u6⟩)
         clear y0 y1 y2 y3 y4 y5 y6 u0 u1 u2 u3 u4 u5 u6
         go_wp2_with fail
         clear x0 x1 x2 x3 x4 x5 x6 z0 z1 z2 z3 z4 z5 z6
         refine wp_region_held_drew (S := fun w' => w'.cell? ⟨w.heap.size, 0, none⟩ = some (.int .i64 4) ∧ w'.cell? ⟨w.heap.size, 1, none⟩ = some (.bool neg) ∧ w'.cell? ⟨w.heap.size, 2, none⟩ = some (.slice od d.length cd) ∧ w'.cell? ⟨w.heap.size, 3, none⟩ = some (.string nm) ∧ w'.cell? ⟨w.heap.size, 4, none⟩ = some (.int .i64 n) ∧ w'.cell? ⟨w.heap.size, 5, none⟩ = some (.slice (some pa) l.length cl) ∧ w'.cell? ⟨w.heap.size, 6, none⟩ = some (.slice ob b.length cb) ∧ w'.cell? ⟨w.heap.size + 1, 0, none⟩ = some (.int .i64 4) ∧ w'.cell? ⟨w.heap.size + 1, 1, none⟩ = some (.bool neg') ∧ w'.cell? ⟨w.heap.size + 1, 2, none⟩ = some (.slice od' d'.length cd') ∧ w'.cell? ⟨w.heap.size + 1, 3, none⟩ = some (.string nm') ∧ w'.cell? ⟨w.heap.size + 1, 4, none⟩ = some (.int .i64 n') ∧ w'.cell? ⟨w.heap.size + 1, 5, none⟩ = some (.slice (some qa) l'.length cl') ∧ w'.cell? ⟨w.heap.size + 1, 6, none⟩ = some (.slice ob' b'.length cb') ∧ w'.cell? (pa.add (i * 7)) = some (.int .i64 pk) ∧ w'.cell? ⟨(pa.add (i * 7)).block, (pa.add (i * 7)).off + 1, none⟩ = some (.bool pneg) ∧ w'.cell? ⟨(pa.add (i * 7)).block, (pa.add (i * 7)).off + 2, none⟩ = some (.slice pod pld pcd) ∧ w'.cell? ⟨(pa.add (i * 7)).block, (pa.add (i * 7)).off + 3, none⟩ = some (.string pnm) ∧ w'.cell? ⟨(pa.add (i * 7)).block, (pa.add (i * 7)).off + 4, none⟩ = some (.int .i64 pn) ∧ w'.cell? ⟨(pa.add (i * 7)).block, (pa.add (i * 7)).off + 5, none⟩ = some (.slice pol pll pcl) ∧ w'.cell? ⟨(pa.add (i * 7)).block, (pa.add (i * 7)).off + 6, none⟩ = some (.slice pob plb pcb) ∧ w'.cell? (qa.add (i * 7)) = some (.int .i64 qk) ∧ w'.cell? ⟨(qa.add (i * 7)).block, (qa.add (i * 7)).off + 1, none⟩ = some (.bool qneg) ∧ w'.cell? ⟨(qa.add (i * 7)).block, (qa.add (i * 7)).off + 2, none⟩ = some (.slice qod qld qcd) ∧ w'.cell? ⟨(qa.add (i * 7)).block, (qa.add (i * 7)).off + 3, none⟩ = some (.string qnm) ∧ w'.cell? ⟨(qa.add (i * 7)).block, (qa.add (i * 7)).off + 4, none⟩ = some (.int .i64 qn) ∧ w'.cell? ⟨(qa.add (i * 7)).block, (qa.add (i * 7)).off + 5, none⟩ = some (.slice qol qll qcl) ∧ w'.cell? ⟨(qa.add (i * 7)).block, (qa.add (i * 7)).off + 6, none⟩ = some (.slice qob qlb qcb)) (by kernel_rfl) (by exact hS.out _ hDr) (fun hHeld => ?_)
         refine wpAnyH_take (i := 0) (oi := _) (v := ?_) rfl (by kernel_rfl) (by kernel_rfl) (by kernel_rfl) (fun _ _ _ h => h) (Or.inl ⟨by rfl, ?_⟩) (by assumption) ?_
         rotate_left 1
         · (intro w hSw; (try dsimp only at hSw); go_simp; try with_reducible rfl)
         try simp (maxSteps := 10000000) only [zga, zgs, zgz, Act.put, zsa, zsz, zss]
         refine wpAnyH_take (i := 1) (oi := _) (v := ?_) rfl (by kernel_rfl) (by kernel_rfl) (by kernel_rfl) (fun _ _ _ h => h) (Or.inl ⟨by rfl, ?_⟩) (by assumption) ?_
         rotate_left 1
         · (intro w hSw; (try dsimp only at hSw); go_simp; try with_reducible rfl)
         try simp (maxSteps := 10000000) only [zga, zgs, zgz, Act.put, zsa, zsz, zss]
         refine wpAnyH_take (i := 2) (oi := _) (v := ?_) rfl (by kernel_rfl) (by kernel_rfl) (by kernel_rfl) (fun _ _ _ h => h) (Or.inl ⟨by rfl, ?_⟩) (by assumption) ?_
         rotate_left 1
         · (intro w hSw; (try dsimp only at hSw); go_simp; try with_reducible rfl)
         try simp (maxSteps := 10000000) only [zga, zgs, zgz, Act.put, zsa, zsz, zss]
         refine wpAnyH_take (i := 3) (oi := _) (v := ?_) rfl (by kernel_rfl) (by kernel_rfl) (by kernel_rfl) (fun _ _ _ h => h) (Or.inl ⟨by rfl, ?_⟩) (by assumption) ?_
         rotate_left 1
         · (intro w hSw; (try dsimp only at hSw); go_simp; try with_reducible rfl)
         try simp (maxSteps := 10000000) only [zga, zgs, zgz, Act.put, zsa, zsz, zss]
         refine wpAnyH_take (i := 4) (oi := _) (v := ?_) rfl (by kernel_rfl) (by kernel_rfl) (by kernel_rfl) (fun _ _ _ h => h) (Or.inl ⟨by rfl, ?_⟩) (by assumption) ?_
         rotate_left 1
         · (intro w hSw; (try dsimp only at hSw); go_simp; try with_reducible rfl)
         try simp (maxSteps := 10000000) only [zga, zgs, zgz, Act.put, zsa, zsz, zss]
         refine wpAnyH_take (i := 5) (oi := _) (v := ?_) rfl (by kernel_rfl) (by kernel_rfl) (by kernel_rfl) (fun _ _ _ h => h) (Or.inl ⟨by rfl, ?_⟩) (by assumption) ?_
         rotate_left 1
         · (intro w hSw; (try dsimp only at hSw); go_simp; try with_reducible rfl)
         try simp (maxSteps := 10000000) only [zga, zgs, zgz, Act.put, zsa, zsz, zss]
         refine wpAnyH_take (i := 6) (oi := _) (v := ?_) rfl (by kernel_rfl) (by kernel_rfl) (by kernel_rfl) (fun _ _ _ h => h) (Or.inl ⟨by rfl, ?_⟩) (by assumption) ?_
         rotate_left 1
         · (intro w hSw; (try dsimp only at hSw); go_simp; try with_reducible rfl)
         try simp (maxSteps := 10000000) only [zga, zgs, zgz, Act.put, zsa, zsz, zss]
         refine wpAnyH_take (i := 7) (oi := _) (v := ?_) rfl (by kernel_rfl) (by kernel_rfl) (by kernel_rfl) (fun _ _ _ h => h) (Or.inl ⟨by rfl, ?_⟩) (by assumption) ?_
         rotate_left 1
         · (intro w hSw; (try dsimp only at hSw); go_simp; try with_reducible rfl)
         try simp (maxSteps := 10000000) only [zga, zgs, zgz, Act.put, zsa, zsz, zss]
         refine wpAnyH_take (i := 8) (oi := _) (v := ?_) rfl (by kernel_rfl) (by kernel_rfl) (by kernel_rfl) (fun _ _ _ h => h) (Or.inl ⟨by rfl, ?_⟩) (by assumption) ?_
         rotate_left 1
         · (intro w hSw; (try dsimp only at hSw); go_simp; try with_reducible rfl)
         try simp (maxSteps := 10000000) only [zga, zgs, zgz, Act.put, zsa, zsz, zss]
         refine wpAnyH_take (i := 9) (oi := _) (v := ?_) rfl (by kernel_rfl) (by kernel_rfl) (by kernel_rfl) (fun _ _ _ h => h) (Or.inl ⟨by rfl, ?_⟩) (by assumption) ?_
         rotate_left 1
         · (intro w hSw; (try dsimp only at hSw); go_simp; try with_reducible rfl)
         try simp (maxSteps := 10000000) only [zga, zgs, zgz, Act.put, zsa, zsz, zss]
         refine wpAnyH_ready (rs := [10]) (by kernel_rfl) (by simp) ?_
         refine AllReadyH.cons rfl (fun K hK => ?_) AllReadyH.nil
         go_simp
         refine (hIH.out t t' _ _ _ hsz hokt hokt' (tv_below hTp hDr) (tv_below hTq hDr) (hTr.below hDr)).mono ?_
         rintro e w2 ⟨rfl, b2⟩
         have c2 : Below wr.heap.size wr w2 := below_and hDr (Nat.le_refl _) b2
         try go_simp
         refine hK.out _ _ ?_ (fun hHeld => ?_)
         · exact hS.out _ (by assumption)
         clear hK K
         try simp (maxSteps := 10000000) only [zga, zgs, zgz, Act.put, zsa, zsz, zss]
         refine wpAnyH_take (i := 11) (oi := _) (v := ?_) rfl (by kernel_rfl) (by kernel_rfl) (by kernel_rfl) (fun _ _ _ h => h) (Or.inl ⟨by rfl, ?_⟩) (by assumption) ?_
         rotate_left 1
         · (intro w hSw; (try dsimp only at hSw); go_simp; try with_reducible rfl)
         try simp (maxSteps := 10000000) only [zga, zgs, zgz, Act.put, zsa, zsz, zss]
         refine wpAnyH_done (by kernel_rfl) ?_ _
         have kA2 := kA'.below c2
         have kB2 := kB'.below c2
         have hB2 := below_and hBr (by have := hBr.size; omega) c2
         obtain ⟨X, hX⟩ : ∃ X, cT t t' = X := ⟨_, rfl⟩
         rw [hX]
         have HX := hid hX
         clear hX hS hDr hHeld c2 b2 kA' kB' hBr hTp hTq hTr hokt hokt'
         by_cases hx : X = 0
         · subst hx
           go_wp2
           go_roundg (l.length - (i + 1))
           case measure => omega
           case rel =>
             refine ⟨i + 1, by omega, by go_num, hid ?_, kA2, kB2, hB2⟩
             have := hstep.out
             rw [HX.out, lx_zero] at this
             rw [← this]; exact hH.out
         · have f1 : (X == 0) = false := by simpa using hx
           have f2 : (X != 0) = true := by simpa using hx
           have hRx : R = X := by rw [← hH.out, hstep.out, HX.out, lx_ne hx]
           have HR2 := hid hRx
           clear hx hRx
           go_wp2
           go_ret
           exact ⟨by rw [HR2.out]; rfl, hB2⟩
       · have hii : ¬ ((i : Nat) : Int) < ((l.length : Nat) : Int) := by omega
         have hR0 : R = 0 := by rw [← hH.out, List.drop_eq_nil_of_le (by omega), cR_nil]
         have HR2 := hid hR0
         clear hR0
         go_wp2
         go_ret
         exact ⟨by rw [HR2.out]; rfl, hBr⟩
   · have hR2 : Hid (R = cmpZ (l.length : Int) (l'.length : Int)) := hid (by rw [← HR.out, cT_4, lx_ne (by rw [Ne, cz_zero]; omega)])
     have f3 : ((l.length : Int) != (l'.length : Int)) = true := by simp; omega
     have f4 : ((l.length : Int) == (l'.length : Int)) = false := by simp; omega
     clear hl2
     go_wp2_with fail
     refine (order_w _ _ _).mono ?_
     rintro e w2 ⟨rfl, rfl⟩
     go_wp2
     go_ret
     exact ⟨by rw [hR2.out]; rfl, hB0⟩
 by_cases hk6 : k = 6
 · subst hk6
   clear q hlow g1 g2 g3 g4 g5 g6 j1 j2 j3 j4 j5 j6
   by_cases hl2 : l.length = l'.length
   · have hHR : Hid (cR l l' = R) := hid (by rw [← HR.out, cT_6, hl2, cz_self, lx_zero])
     have hel := hid hl2
     have f3 : ((l.length : Int) != (l'.length : Int)) = false := by simp [hl2]
     have f4 : ((l.length : Int) == (l'.length : Int)) = true := by simp [hl2]
     have hok2 : Hid (∀ p ∈ partsL l, p.ok1) := hid (fun p hp' => hok.out.1 p (by simp [parts, hp']))
     have hok2' : Hid (∀ p ∈ partsL l', p.ok1) := hid (fun p hp' => hok.out.2 p (by simp [parts, hp']))
     clear hl2
     go_wp2_with fail
     generalize ((w.alloc (.cells #[.int .i64 6, .bool neg, .slice od d.length cd, .string nm, .int .i64 n, .slice ol l.length cl, .slice ob b.length cb] 27)).alloc (.cells #[.int .i64 6, .bool neg', .slice od' d'.length cd', .string nm', .int .i64 n', .slice ol' l'.length cl', .slice ob' b'.length cb'] 27)) = W0 at *
     go_loopg [5] l.length (fun t v5 wr => ∃ (i : Nat), t + i = l.length ∧ v5 = .int .i64 (i : Int) ∧ Hid (cR (l.drop i) (l'.drop i) = R) ∧ Bx w.heap.size (.int .i64 6) (.bool neg) (.slice od d.length cd) (.string nm) (.int .i64 n) (.slice ol l.length cl) (.slice ob b.length cb) wr ∧ Bx (w.heap.size + 1) (.int .i64 6) (.bool neg') (.slice od' d'.length cd') (.string nm') (.int .i64 n') (.slice ol' l'.length cl') (.slice ob' b'.length cb') wr ∧ Below w.heap.size w wr)
     case atStart => exact ⟨0, by omega, rfl, hid (by simpa using hHR.out), kA, kB, hB0⟩
     case round =>
       obtain ⟨i, hti, rfl, hH, kA', kB', hBr⟩ := hrel
       clear kA kB hB0
       obtain ⟨x0, x1, x2, x3, x4, x5, x6⟩ := kA'.res
       obtain ⟨z0, z1, z2, z3, z4, z5, z6⟩ := kB'.res
       by_cases hil : i < l.length
       · have hii : ((i : Nat) : Int) < ((l.length : Nat) : Int) := by omega
         have hil' : i < l'.length := by have := hel.out; omega
         have hii' : ((i : Nat) : Int) < ((l'.length : Nat) : Int) := by omega
         obtain ⟨t, ht⟩ : ∃ t, l[i]? = some t := ⟨l[i], by simp [hil]⟩
         obtain ⟨t', ht'⟩ : ∃ t', l'[i]? = some t' := ⟨l'[i], by simp [hil']⟩
         obtain ⟨pa, pk, pneg, pod, pld, pcd, pnm, pn, pol, pll, pcl, pob, plb, pcb, rfl, hTp, y0, y1, y2, y3, y4, y5, y6⟩ := htR.out.get ht hBr
         obtain ⟨qa, qk, qneg, qod, qld, qcd, qnm, qn, qol, qll, qcl, qob, qlb, qcb, rfl, hTq, u0, u1, u2, u3, u4, u5, u6⟩ := huR.out.get ht' hBr
         have hsz : tsz t ≤ N := by have := tsz_mem ht; simp only [tsz] at hN; omega
         have hokt : ∀ p ∈ parts t, p.ok1 := fun p hp => hok2.out p (mem_partsL ht hp)
         have hokt' : ∀ p ∈ parts t', p.ok1 := fun p hp => hok2'.out p (mem_partsL ht' hp)
         have hTr := hT.below hBr
         have hstep : Hid (cR (l.drop i) (l'.drop i) = lx (cT t t') (cR (l.drop (i + 1)) (l'.drop (i + 1)))) := hid (by
           rw [List.drop_eq_getElem_cons hil, List.drop_eq_getElem_cons hil', cR_cons]
           rw [show l[i] = t from by simpa [hil] using ht, show l'[i] = t' from by simpa [hil'] using ht'])
         clear ht ht' hil'
         have hDr : Below wr.heap.size wr wr.drew := (Below.refl _ wr).drew
         have hS : Hid (∀ w', Below wr.heap.size wr w' → (w'.cell? ⟨w.heap.size, 0, none⟩ = some (.int .i64 6) ∧ w'.cell? ⟨w.heap.size, 1, none⟩ = some (.bool neg) ∧ w'.cell? ⟨w.heap.size, 2, none⟩ = some (.slice od d.length cd) ∧ w'.cell? ⟨w.heap.size, 3, none⟩ = some (.string nm) ∧ w'.cell? ⟨w.heap.size, 4, none⟩ = some (.int .i64 n) ∧ w'.cell? ⟨w.heap.size, 5, none⟩ = some (.slice (some pa) l.length cl) ∧ w'.cell? ⟨w.heap.size, 6, none⟩ = some (.slice ob b.length cb) ∧ w'.cell? ⟨w.heap.size + 1, 0, none⟩ = some (.int .i64 6) ∧ w'.cell? ⟨w.heap.size + 1, 1, none⟩ = some (.bool neg') ∧ w'.cell? ⟨w.heap.size + 1, 2, none⟩ = some (.slice od' d'.length cd') ∧ w'.cell? ⟨w.heap.size + 1, 3, none⟩ = some (.string nm') ∧ w'.cell? ⟨w.heap.size + 1, 4, none⟩ = some (.int .i64 n') ∧ w'.cell? ⟨w.heap.size + 1, 5, none⟩ = some (.slice (some qa) l'.length cl') ∧ w'.cell? ⟨w.heap.size + 1, 6, none⟩ = some (.slice ob' b'.length cb') ∧ w'.cell? (pa.add (i * 7)) = some (.int .i64 pk) ∧ w'.cell? ⟨(pa.add (i * 7)).block, (pa.add (i * 7)).off + 1, none⟩ = some (.bool pneg) ∧ w'.cell? ⟨(pa.add (i * 7)).block, (pa.add (i * 7)).off + 2, none⟩ = some (.slice pod pld pcd) ∧ w'.cell? ⟨(pa.add (i * 7)).block, (pa.add (i * 7)).off + 3, none⟩ = some (.string pnm) ∧ w'.cell? ⟨(pa.add (i * 7)).block, (pa.add (i * 7)).off + 4, none⟩ = some (.int .i64 pn) ∧ w'.cell? ⟨(pa.add (i * 7)).block, (pa.add (i * 7)).off + 5, none⟩ = some (.slice pol pll pcl) ∧ w'.cell? ⟨(pa.add (i * 7)).block, (pa.add (i * 7)).off + 6, none⟩ = some (.slice pob plb pcb) ∧ w'.cell? (qa.add (i * 7)) = some (.int .i64 qk) ∧ w'.cell? ⟨(qa.add (i * 7)).block, (qa.add (i * 7)).off + 1, none⟩ = some (.bool qneg) ∧ w'.cell? ⟨(qa.add (i * 7)).block, (qa.add (i * 7)).off + 2, none⟩ = some (.slice qod qld qcd) ∧ w'.cell? ⟨(qa.add (i * 7)).block, (qa.add (i * 7)).off + 3, none⟩ = some (.string qnm) ∧ w'.cell? ⟨(qa.add (i * 7)).block, (qa.add (i * 7)).off + 4, none⟩ = some (.int .i64 qn) ∧ w'.cell? ⟨(qa.add (i * 7)).block, (qa.add (i * 7)).off + 5, none⟩ = some (.slice qol qll qcl) ∧ w'.cell? ⟨(qa.add (i * 7)).block, (qa.add (i * 7)).off + 6, none⟩ = some (.slice qob qlb qcb))) := hid (fun w' hb => by
           obtain ⟨x0, x1, x2, x3, x4, x5, x6⟩ := (kA'.below hb).res
           obtain ⟨z0, z1, z2, z3, z4, z5, z6⟩ := (kB'.below hb).res
           have q : ∀ {a : Addr} {v : Value}, wr.cell? a = some v → w'.cell? a = some v := fun h => (hb.cell (World.block_lt_of_cell? _ _ h)).trans h
           exact ⟨x0, x1, x2, x3, x4, x5, x6, z0, z1, z2, z3, z4, z5, z6, q y0, q y1, q y2, q y3, q y4, q y5, q y6, q u0, q u1, q u2, q u3, q u4, q u5, q u6⟩)
         clear y0 y1 y2 y3 y4 y5 y6 u0 u1 u2 u3 u4 u5 u6
         go_wp2_with fail
         clear x0 x1 x2 x3 x4 x5 x6 z0 z1 z2 z3 z4 z5 z6
         refine wp_region_held_drew (S := fun w' => w'.cell? ⟨w.heap.size, 0, none⟩ = some (.int .i64 6) ∧ w'.cell? ⟨w.heap.size, 1, none⟩ = some (.bool neg) ∧ w'.cell? ⟨w.heap.size, 2, none⟩ = some (.slice od d.length cd) ∧ w'.cell? ⟨w.heap.size, 3, none⟩ = some (.string nm) ∧ w'.cell? ⟨w.heap.size, 4, none⟩ = some (.int .i64 n) ∧ w'.cell? ⟨w.heap.size, 5, none⟩ = some (.slice (some pa) l.length cl) ∧ w'.cell? ⟨w.heap.size, 6, none⟩ = some (.slice ob b.length cb) ∧ w'.cell? ⟨w.heap.size + 1, 0, none⟩ = some (.int .i64 6) ∧ w'.cell? ⟨w.heap.size + 1, 1, none⟩ = some (.bool neg') ∧ w'.cell? ⟨w.heap.size + 1, 2, none⟩ = some (.slice od' d'.length cd') ∧ w'.cell? ⟨w.heap.size + 1, 3, none⟩ = some (.string nm') ∧ w'.cell? ⟨w.heap.size + 1, 4, none⟩ = some (.int .i64 n') ∧ w'.cell? ⟨w.heap.size + 1, 5, none⟩ = some (.slice (some qa) l'.length cl') ∧ w'.cell? ⟨w.heap.size + 1, 6, none⟩ = some (.slice ob' b'.length cb') ∧ w'.cell? (pa.add (i * 7)) = some (.int .i64 pk) ∧ w'.cell? ⟨(pa.add (i * 7)).block, (pa.add (i * 7)).off + 1, none⟩ = some (.bool pneg) ∧ w'.cell? ⟨(pa.add (i * 7)).block, (pa.add (i * 7)).off + 2, none⟩ = some (.slice pod pld pcd) ∧ w'.cell? ⟨(pa.add (i * 7)).block, (pa.add (i * 7)).off + 3, none⟩ = some (.string pnm) ∧ w'.cell? ⟨(pa.add (i * 7)).block, (pa.add (i * 7)).off + 4, none⟩ = some (.int .i64 pn) ∧ w'.cell? ⟨(pa.add (i * 7)).block, (pa.add (i * 7)).off + 5, none⟩ = some (.slice pol pll pcl) ∧ w'.cell? ⟨(pa.add (i * 7)).block, (pa.add (i * 7)).off + 6, none⟩ = some (.slice pob plb pcb) ∧ w'.cell? (qa.add (i * 7)) = some (.int .i64 qk) ∧ w'.cell? ⟨(qa.add (i * 7)).block, (qa.add (i * 7)).off + 1, none⟩ = some (.bool qneg) ∧ w'.cell? ⟨(qa.add (i * 7)).block, (qa.add (i * 7)).off + 2, none⟩ = some (.slice qod qld qcd) ∧ w'.cell? ⟨(qa.add (i * 7)).block, (qa.add (i * 7)).off + 3, none⟩ = some (.string qnm) ∧ w'.cell? ⟨(qa.add (i * 7)).block, (qa.add (i * 7)).off + 4, none⟩ = some (.int .i64 qn) ∧ w'.cell? ⟨(qa.add (i * 7)).block, (qa.add (i * 7)).off + 5, none⟩ = some (.slice qol qll qcl) ∧ w'.cell? ⟨(qa.add (i * 7)).block, (qa.add (i * 7)).off + 6, none⟩ = some (.slice qob qlb qcb)) (by kernel_rfl) (by exact hS.out _ hDr) (fun hHeld => ?_)
         refine wpAnyH_take (i := 0) (oi := _) (v := ?_) rfl (by kernel_rfl) (by kernel_rfl) (by kernel_rfl) (fun _ _ _ h => h) (Or.inl ⟨by rfl, ?_⟩) (by assumption) ?_
         rotate_left 1
         · (intro w hSw; (try dsimp only at hSw); go_simp; try with_reducible rfl)
         try simp (maxSteps := 10000000) only [zga, zgs, zgz, Act.put, zsa, zsz, zss]
         refine wpAnyH_take (i := 1) (oi := _) (v := ?_) rfl (by kernel_rfl) (by kernel_rfl) (by kernel_rfl) (fun _ _ _ h => h) (Or.inl ⟨by rfl, ?_⟩) (by assumption) ?_
         rotate_left 1
         · (intro w hSw; (try dsimp only at hSw); go_simp; try with_reducible rfl)
         try simp (maxSteps := 10000000) only [zga, zgs, zgz, Act.put, zsa, zsz, zss]
         refine wpAnyH_take (i := 2) (oi := _) (v := ?_) rfl (by kernel_rfl) (by kernel_rfl) (by kernel_rfl) (fun _ _ _ h => h) (Or.inl ⟨by rfl, ?_⟩) (by assumption) ?_
         rotate_left 1
         · (intro w hSw; (try dsimp only at hSw); go_simp; try with_reducible rfl)
         try simp (maxSteps := 10000000) only [zga, zgs, zgz, Act.put, zsa, zsz, zss]
         refine wpAnyH_take (i := 3) (oi := _) (v := ?_) rfl (by kernel_rfl) (by kernel_rfl) (by kernel_rfl) (fun _ _ _ h => h) (Or.inl ⟨by rfl, ?_⟩) (by assumption) ?_
         rotate_left 1
         · (intro w hSw; (try dsimp only at hSw); go_simp; try with_reducible rfl)
         try simp (maxSteps := 10000000) only [zga, zgs, zgz, Act.put, zsa, zsz, zss]
         refine wpAnyH_take (i := 4) (oi := _) (v := ?_) rfl (by kernel_rfl) (by kernel_rfl) (by kernel_rfl) (fun _ _ _ h => h) (Or.inl ⟨by rfl, ?_⟩) (by assumption) ?_
         rotate_left 1
         · (intro w hSw; (try dsimp only at hSw); go_simp; try with_reducible rfl)
         try simp (maxSteps := 10000000) only [zga, zgs, zgz, Act.put, zsa, zsz, zss]
         refine wpAnyH_take (i := 5) (oi := _) (v := ?_) rfl (by kernel_rfl) (by kernel_rfl) (by kernel_rfl) (fun _ _ _ h => h) (Or.inl ⟨by rfl, ?_⟩) (by assumption) ?_
         rotate_left 1
         · (intro w hSw; (try dsimp only at hSw); go_simp; try with_reducible rfl)
         try simp (maxSteps := 10000000) only [zga, zgs, zgz, Act.put, zsa, zsz, zss]
         refine wpAnyH_take (i := 6) (oi := _) (v := ?_) rfl (by kernel_rfl) (by kernel_rfl) (by kernel_rfl) (fun _ _ _ h => h) (Or.inl ⟨by rfl, ?_⟩) (by assumption) ?_
         rotate_left 1
         · (intro w hSw; (try dsimp only at hSw); go_simp; try with_reducible rfl)
         try simp (maxSteps := 10000000) only [zga, zgs, zgz, Act.put, zsa, zsz, zss]
         refine wpAnyH_take (i := 7) (oi := _) (v := ?_) rfl (by kernel_rfl) (by kernel_rfl) (by kernel_rfl) (fun _ _ _ h => h) (Or.inl ⟨by rfl, ?_⟩) (by assumption) ?_
         rotate_left 1
         · (intro w hSw; (try dsimp only at hSw); go_simp; try with_reducible rfl)
         try simp (maxSteps := 10000000) only [zga, zgs, zgz, Act.put, zsa, zsz, zss]
         refine wpAnyH_take (i := 8) (oi := _) (v := ?_) rfl (by kernel_rfl) (by kernel_rfl) (by kernel_rfl) (fun _ _ _ h => h) (Or.inl ⟨by rfl, ?_⟩) (by assumption) ?_
         rotate_left 1
         · (intro w hSw; (try dsimp only at hSw); go_simp; try with_reducible rfl)
         try simp (maxSteps := 10000000) only [zga, zgs, zgz, Act.put, zsa, zsz, zss]
         refine wpAnyH_take (i := 9) (oi := _) (v := ?_) rfl (by kernel_rfl) (by kernel_rfl) (by kernel_rfl) (fun _ _ _ h => h) (Or.inl ⟨by rfl, ?_⟩) (by assumption) ?_
         rotate_left 1
         · (intro w hSw; (try dsimp only at hSw); go_simp; try with_reducible rfl)
         try simp (maxSteps := 10000000) only [zga, zgs, zgz, Act.put, zsa, zsz, zss]
         refine wpAnyH_ready (rs := [10]) (by kernel_rfl) (by simp) ?_
         refine AllReadyH.cons rfl (fun K hK => ?_) AllReadyH.nil
         go_simp
         refine (hIH.out t t' _ _ _ hsz hokt hokt' (tv_below hTp hDr) (tv_below hTq hDr) (hTr.below hDr)).mono ?_
         rintro e w2 ⟨rfl, b2⟩
         have c2 : Below wr.heap.size wr w2 := below_and hDr (Nat.le_refl _) b2
         try go_simp
         refine hK.out _ _ ?_ (fun hHeld => ?_)
         · exact hS.out _ (by assumption)
         clear hK K
         try simp (maxSteps := 10000000) only [zga, zgs, zgz, Act.put, zsa, zsz, zss]
         refine wpAnyH_take (i := 11) (oi := _) (v := ?_) rfl (by kernel_rfl) (by kernel_rfl) (by kernel_rfl) (fun _ _ _ h => h) (Or.inl ⟨by rfl, ?_⟩) (by assumption) ?_
         rotate_left 1
         · (intro w hSw; (try dsimp only at hSw); go_simp; try with_reducible rfl)
         try simp (maxSteps := 10000000) only [zga, zgs, zgz, Act.put, zsa, zsz, zss]
         refine wpAnyH_done (by kernel_rfl) ?_ _
         have kA2 := kA'.below c2
         have kB2 := kB'.below c2
         have hB2 := below_and hBr (by have := hBr.size; omega) c2
         obtain ⟨X, hX⟩ : ∃ X, cT t t' = X := ⟨_, rfl⟩
         rw [hX]
         have HX := hid hX
         clear hX hS hDr hHeld c2 b2 kA' kB' hBr hTp hTq hTr hokt hokt'
         by_cases hx : X = 0
         · subst hx
           go_wp2
           go_roundg (l.length - (i + 1))
           case measure => omega
           case rel =>
             refine ⟨i + 1, by omega, by go_num, hid ?_, kA2, kB2, hB2⟩
             have := hstep.out
             rw [HX.out, lx_zero] at this
             rw [← this]; exact hH.out
         · have f1 : (X == 0) = false := by simpa using hx
           have f2 : (X != 0) = true := by simpa using hx
           have hRx : R = X := by rw [← hH.out, hstep.out, HX.out, lx_ne hx]
           have HR2 := hid hRx
           clear hx hRx
           go_wp2
           go_ret
           exact ⟨by rw [HR2.out]; rfl, hB2⟩
       · have hii : ¬ ((i : Nat) : Int) < ((l.length : Nat) : Int) := by omega
         have hR0 : R = 0 := by rw [← hH.out, List.drop_eq_nil_of_le (by omega), cR_nil]
         have HR2 := hid hR0
         clear hR0
         go_wp2
         go_ret
         exact ⟨by rw [HR2.out]; rfl, hBr⟩
   · have hR2 : Hid (R = cmpZ (l.length : Int) (l'.length : Int)) := hid (by rw [← HR.out, cT_6, lx_ne (by rw [Ne, cz_zero]; omega)])
     have f3 : ((l.length : Int) != (l'.length : Int)) = true := by simp; omega
     have f4 : ((l.length : Int) == (l'.length : Int)) = false := by simp; omega
     clear hl2
     go_wp2_with fail
     refine (order_w _ _ _).mono ?_
     rintro e w2 ⟨rfl, rfl⟩
     go_wp2
     go_ret
     exact ⟨by rw [hR2.out]; rfl, hB0⟩
 have e0 : (k == 0) = false := by simp [hk0]
 have e1 : (k == 1) = false := by simp [hk1]
 have e2 : (k == 2) = false := by simp [hk2]
 have e3 : (k == 3) = false := by simp [hk3]
 have e4 : (k == 4) = false := by simp [hk4]
 have e6 : (k == 6) = false := by simp [hk6]
 have e7 : (k == 7) = false := by simp [hk7]
 have hR2 : Hid (R = 0) := hid (by
   rw [← HR.out, cT, cz_self, lx_zero, if_neg hk0, if_neg hk1, if_neg (by omega), if_neg hk7, if_neg (by omega)])
 go_wp2
 go_ret
 exact ⟨by rw [hR2.out]; rfl, hB0⟩
end Go.Proofs.YtlojfmlaookpmaaGreatDoor
